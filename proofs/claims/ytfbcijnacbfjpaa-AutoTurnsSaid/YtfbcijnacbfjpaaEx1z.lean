/-
  The laws' own exprs: the lefts and rights of a plan's rules.
-/
import Derived.Test.YtfbcijnacbfjpaaRm2cz
import Derived.Test.YtfbcijnacbfjpaaRvxz
import Derived.Test.YtfbcijnacbfjpaaV5z
import Derived.Test.YtfbcijnacbfjpaaSts0z
import Derived.Deep.QuietTactic
import Derived.BigQuiet
import Derived.Deep.AppendLies
namespace Go.Proofs.Ytfbcijnacbfjpaa
open Go.RowKit Go.Maps
set_option linter.unusedVariables false
set_option linter.unusedSimpArgs false
open Rl (Ex)
mutual
theorem Tr.te {w : World} {F : Nat → Prop} : ∀ (e : Ex) (v : Value), Rl.Small e → Sok e → Tr w F e v → Te w F e v
  | .mk op set kids, v, hs, ho, h => by
    unfold Tr at h
    unfold Sok at ho
    unfold Te
    obtain ⟨a, cap, h1, h2, h3⟩ := h
    obtain ⟨k1, k2⟩ := hs.kids
    refine ⟨a, cap, h1, h2, by unfold maxLen; omega, ho.1, ho.2.1, fun hn => ?_⟩
    obtain ⟨b, cs, z, g1, g2, g3, g4⟩ := h3 hn
    exact ⟨b, 0, g1, g2, Trs.te kids b 0 _ (fun j => by rw [Nat.zero_add]; exact (cell_of_row _ _ _ _ _ _ g3).symm) k2 ho.2.2 g4⟩
theorem Trs.te {w : World} {F : Nat → Prop} : ∀ (es : List Ex) (b off : Nat) (c : Nat → Option Value), (∀ j, c j = w.cell? ⟨b, off + j, none⟩) → (∀ k ∈ es, Rl.Small k) → Soks es → Trs w F es c → Tes w F es b off
  | [], _, _, _, _, _, _, _ => by unfold Tes; trivial
  | e :: es, b, off, c, hc, hs, ho, h => by
    unfold Trs at h
    unfold Soks at ho
    unfold Tes
    obtain ⟨⟨o, s, k, c0, c1, c2, ht⟩, hr⟩ := h
    refine ⟨⟨o, s, k, by rw [← c0, hc 0]; rfl, by rw [← c1, hc 1], by rw [← c2, hc 2], Tr.te e _ (hs e (by simp)) ho.1 ht⟩, Trs.te es b (off + 3) _ (fun j => ?_) (fun k hk => hs k (by simp [hk])) ho.2 hr⟩
    rw [hc (j + 3)]
    congr 2
    omega
end
/-- these cells are these expressions. -/
def Txs (w : World) (F : Nat → Prop) (es : List Ex) (xs : List Value) : Prop := ∀ (i : Nat) (e : Ex), es[i]? = some e → ∃ o s k, xs[i * 3]? = some o ∧ xs[i * 3 + 1]? = some s ∧ xs[i * 3 + 2]? = some k ∧ Te w F e (.agg #[o, s, k])
theorem Txs.snoc {w : World} {F : Nat → Prop} {es : List Ex} {xs : List Value} (h : Txs w F es xs) (hl : xs.length = es.length * 3) {e : Ex} {o s k : Value} (he : Te w F e (.agg #[o, s, k])) : Txs w F (es ++ [e]) (xs ++ [o, s, k]) := by
  intro i x hx
  by_cases hlt : i < es.length
  · rw [List.getElem?_append_left hlt] at hx
    obtain ⟨o', s', k', h1, h2, h3, h4⟩ := h i x hx
    exact ⟨o', s', k', by rw [List.getElem?_append_left (by omega)]; exact h1, by rw [List.getElem?_append_left (by omega)]; exact h2, by rw [List.getElem?_append_left (by omega)]; exact h3, h4⟩
  · have hi := (List.getElem?_eq_some_iff.1 hx).1
    simp at hi
    obtain rfl : i = es.length := by omega
    rw [List.getElem?_append_right (Nat.le_refl _)] at hx
    simp at hx
    subst hx
    refine ⟨o, s, k, ?_, ?_, ?_, he⟩
    · rw [List.getElem?_append_right (by omega), hl]; simp
    · rw [List.getElem?_append_right (by omega), hl, show es.length * 3 + 1 - es.length * 3 = 1 by omega]; rfl
    · rw [List.getElem?_append_right (by omega), hl, show es.length * 3 + 2 - es.length * 3 = 2 by omega]; rfl
theorem Tes.of {w W : World} {F F' : Nat → Prop} (hk : Kp w W F) (hF : ∀ b, F b → F' b) : ∀ (es : List Ex) (b off : Nat), (∀ (i : Nat) (e : Ex), es[i]? = some e → ∃ o s k, W.cell? ⟨b, off + i * 3, none⟩ = some o ∧ W.cell? ⟨b, off + i * 3 + 1, none⟩ = some s ∧ W.cell? ⟨b, off + i * 3 + 2, none⟩ = some k ∧ Te w F e (.agg #[o, s, k])) → Tes W F' es b off
  | [], _, _, _ => by unfold Tes; trivial
  | e :: es, b, off, h => by
    unfold Tes
    obtain ⟨o, s, k, h1, h2, h3, h4⟩ := h 0 e rfl
    refine ⟨⟨o, s, k, by simpa using h1, by simpa using h2, by simpa using h3, Te.keep hk hF e _ h4⟩, Tes.of hk hF es b (off + 3) (fun i x hx => ?_)⟩
    obtain ⟨o, s, k, h1, h2, h3, h4⟩ := h (i + 1) x (by simpa using hx)
    rw [show off + (i + 1) * 3 = off + 3 + i * 3 by omega] at h1 h2 h3
    exact ⟨o, s, k, h1, h2, h3, h4⟩
theorem sides_len : ∀ (l : List Rl.Rule), (Rl.sides l).length = 2 * l.length
  | [] => rfl
  | r :: l => by simp [Rl.sides, sides_len l]; omega
theorem sides_take (l : List Rl.Rule) (k : Nat) (r : Rl.Rule) (h : l[k]? = some r) : Rl.sides (l.take (k + 1)) = Rl.sides (l.take k) ++ [r.left, r.right] := by
  have hlt := (List.getElem?_eq_some_iff.1 h).1
  rw [List.take_succ_eq_append_getElem hlt, (List.getElem?_eq_some_iff.1 h).2, Rl.sides_snoc]
/-- the row of expressions, read. -/
theorem Lex.of {w W : World} {F : Nat → Prop} {es : List Ex} {xs : List Value} {v : Value} {base : Nat} (hT : Txs w F es xs) (ho : W.ownsRow base 49 3 v es.length xs) (hk : Kp w W F) (hF : ∀ b, F b → b < W.heap.size) (hl : es.length ≤ 1000) : ∃ a c, v = .slice a es.length c ∧ Lex W (fun b => b < W.heap.size) es a c := by
  obtain ⟨a, c, rfl⟩ := own_form ho
  refine ⟨a, c, rfl, by unfold maxLen; omega, fun hn => ?_⟩
  have h0 : 0 < es.length := List.length_pos_iff.2 hn
  obtain ⟨g, cap, hv, _, hl2, _, hc⟩ := row_form ho h0
  injection hv with e1
  refine ⟨g, 0, e1, hl2, Tes.of hk hF es g 0 (fun i e hi => ?_)⟩
  have hi2 := (List.getElem?_eq_some_iff.1 hi).1
  obtain ⟨o, s, k, h1, h2, h3, h4⟩ := hT i e hi
  exact ⟨o, s, k, by rw [Nat.zero_add, hc _ (by omega)]; exact h1, by rw [Nat.zero_add, hc _ (by omega)]; exact h2, by rw [Nat.zero_add, hc _ (by omega)]; exact h3, h4⟩
/-- how exprs ends. -/
def exsP (w : World) (n : Nat) (e : Ending) (w' : World) : Prop := ∃ (s : Rl.St) (a : Option Addr) (c : Nat), e = .returned (.tuple #[.slice a (Rl.sides s.list).length c, .int .i64 (n : Int)]) ∧ Lex w' (fun b => b < w'.heap.size) (Rl.sides s.list) a c ∧ Rl.FineS s ∧ s.cls.length = n ∧ s.list.length ≤ 10 ∧ Only (fun _ => False) w w'
theorem rd_fine {S : ByteArray} {s : Rl.St} (h : rd S (.ok s)) : Rl.FineS s := by
  rcases h with ⟨_, h⟩ | ⟨hS, ts, hs, h⟩
  · cases h
  · exact Rl.lines_fine _ _ _ h.symm Rl.fine_st0
theorem fine_mem {s : Rl.St} (h : Rl.FineS s) {i : Nat} {r : Rl.Rule} (hr : s.list[i]? = some r) : Sok r.left ∧ Sok r.right := by
  have key : ∀ (l : List Rl.Rule) (i : Nat) (r : Rl.Rule), Soks (Rl.sides l) → l[i]? = some r → Sok r.left ∧ Sok r.right := by
    intro l
    induction l with
    | nil => intro i r _ h; simp at h
    | cons q l ih =>
      intro i r hs h
      simp only [Rl.sides] at hs
      unfold Soks at hs
      obtain ⟨h1, hs⟩ := hs
      unfold Soks at hs
      obtain ⟨h2, hs⟩ := hs
      cases i with
      | zero => injection h with h; subst h; exact ⟨h1, h2⟩
      | succ i => exact ih i r hs (by simpa using h)
  exact key _ _ _ h.so hr
set_option maxRecDepth 100000 in
set_option maxHeartbeats 4000000 in
theorem exprs_any (c jo af : Nat) (aT : Option Addr) (nT cT : Nat) (T : List Nat) (aR : Option Addr) (nR cR : Nat) (rs : List Pr) (w : World) (hc : c ≤ 255) (hjo : jo ≤ 255) (haf : af ≤ 255) (hT : Bw w aT nT T) (hR : Rw w aR nR rs) :
    Calls Try.prog 10 #[planV c jo af aT nT cT aR nR cR] w (exsP w (1 + c % 6)) := by
  have hA : Only (fun _ => False) w (w.alloc (.cells #[.int .u8 (c : Int), .int .u8 (jo : Int), .int .u8 (af : Int), .slice aT nT cT, .slice aR nR cR] 25)) := (Only.refl _ _).alloc _
  have HT : Hid (Calls Try.prog 24 #[planV c jo af aT nT cT aR nR cR] (w.alloc (.cells #[.int .u8 (c : Int), .int .u8 (jo : Int), .int .u8 (af : Int), .slice aT nT cT, .slice aR nR cR] 25)) fun e w' => e = .returned (.string (bs (Hd.text (1 + c % 6) jo af T rs))) ∧ Only (fun _ => False) (w.alloc (.cells #[.int .u8 (c : Int), .int .u8 (jo : Int), .int .u8 (af : Int), .slice aT nT cT, .slice aR nR cR] 25)) w') := text_hand c jo af aT nT cT T aR nR cR rs _ hc hjo haf (hT.keep hA) (hR.keep hA)
  obtain ⟨n, hn⟩ : ∃ n, n = 1 + c % 6 := ⟨_, rfl⟩
  have HN : Hid (n = 1 + c % 6) := hn
  rw [← hn]
  rw [← hn] at HT
  have hl2 := Rl.text_len2 (n := n) (by omega) jo af T rs
  obtain ⟨F0, hF0⟩ := rd_some (bs (Hd.text n jo af T rs))
  have hS : ∃ s, rd (bs (Hd.text n jo af T rs)) (.ok s) ∧ Rl.Made n jo af T rs s := by
    rcases hF0 with ⟨h, _⟩ | ⟨h, ts, hs, h2⟩
    · rw [bs_size] at h; omega
    · obtain ⟨s, h3, h4⟩ := Rl.made_x (by omega) (by omega) jo af T rs hs
      exact ⟨s, Or.inr ⟨h, ts, hs, h3.symm⟩, h4⟩
  obtain ⟨s, hs1, hs2⟩ := hS
  have HRD : Hid (rd (bs (Hd.text n jo af T rs)) (.ok s)) := hs1
  have HFI : Hid (Rl.FineS s) := rd_fine hs1
  have HSM : Hid (Rl.SmallS s) := rd_small hs1
  have HCL : Hid (s.cls.length = n) := hs2.cls
  have hll : s.list.length ≤ 10 := by rw [hs2.list]; omega
  have HLL : Hid (s.list.length ≤ 10) := hll
  obtain ⟨i9, h9, h90, h91, h92⟩ := info_parts info50
  clear hs1 hs2 hF0 hl2 hn hA
  unfold planV at HT ⊢
  go_enter Try.func10, Try.ntmps10
  go_wp2_with (first
    | (go_at_call 24; refine HT.out.mono ?_; rintro e w1 ⟨rfl, ho1⟩; have HO1 : Hid (Only (fun _ => False) w w1) := ((Only.refl _ _).alloc _).trans ho1; clear ho1)
    | (go_at_call 23; refine (parse_all _ _ _ HRD.out).mono ?_; rintro e w2 ⟨⟨v, B, rfl, hB, hRv⟩, ho2⟩; obtain ⟨aC, aTr, aL, cC, cTr, cL, rfl, r1, r2, r3, r4⟩ := hRv; have HO2 : Hid (Only (fun _ => False) w w2) := HO1.out.trans ho2; have HLS : Hid (Rls w2 B (.slice aL s.list.length cL) s.list) := r3; clear ho2 r1 r2 r3 r4 hB))
  have HTL : Hid (∀ (k : Nat) (r : Rl.Rule), s.list[k]? = some r → ∃ g op st a1 m1 c1 op' st' a2 m2 c2, aL = some ⟨g, 0, none⟩ ∧ g < w2.heap.size ∧ w2.cell? ⟨g, k * 7, none⟩ = some (.int .u8 r.does) ∧ w2.cell? ⟨g, k * 7 + 1, none⟩ = some (.int .u8 op) ∧ w2.cell? ⟨g, k * 7 + 2, none⟩ = some (.int .u32 st) ∧ w2.cell? ⟨g, k * 7 + 3, none⟩ = some (.slice a1 m1 c1) ∧ w2.cell? ⟨g, k * 7 + 4, none⟩ = some (.int .u8 op') ∧ w2.cell? ⟨g, k * 7 + 5, none⟩ = some (.int .u32 st') ∧ w2.cell? ⟨g, k * 7 + 6, none⟩ = some (.slice a2 m2 c2) ∧ Te w2 (fun b => b < w2.heap.size) r.left (.agg #[.int .u8 op, .int .u32 st, .slice a1 m1 c1]) ∧ Te w2 (fun b => b < w2.heap.size) r.right (.agg #[.int .u8 op', .int .u32 st', .slice a2 m2 c2])) := fun k r hr => by
    obtain ⟨g, op, st, a1, m1, c1, op', st', a2, m2, c2, e0, e1, e2, e3, e4, e5, e6, e7, e8, e9, e10⟩ := HLS.out.get hr
    have hm := HSM.out.2 r (List.mem_of_getElem? hr)
    have hf := fine_mem HFI.out hr
    exact ⟨g, op, st, a1, m1, c1, op', st', a2, m2, c2, e0, e1, e2, e3, e4, e5, e7, e8, e9, Tr.te _ _ hm.1 hf.1 (Tr.keep (fun b _ hl => ⟨hl, rfl⟩) _ _ e6), Tr.te _ _ hm.2 hf.2 (Tr.keep (fun b _ hl => ⟨hl, rfl⟩) _ _ e10)⟩
  obtain ⟨nl, hnl⟩ : ∃ nl, nl = s.list.length := ⟨_, rfl⟩
  have HNL : Hid (nl = s.list.length) := hnl
  rw [← hnl]
  rw [← hnl] at hll
  clear hnl HLS
  go_loopg [6, 18] nl (fun gh v6 v18 wr => ∃ (k : Nat) (xs : List Value) (vE : Value) (W : World), W = wr ∧ gh = nl - k ∧ k ≤ nl ∧ vE = v6 ∧ v18 = .int .i64 (k : Int) ∧ W.ownsRow w2.heap.size 49 3 vE (Rl.sides (s.list.take k)).length xs ∧ Txs w2 (fun b => b < w2.heap.size) (Rl.sides (s.list.take k)) xs ∧ Only (fun b => w2.heap.size ≤ b) w2 W ∧ W.cell? ⟨w2.heap.size, 0, none⟩ = some (.slice aC s.cls.length cC) ∧ (∃ cs z, W.heap[w2.heap.size]? = some (.cells cs 61 z)))
  case atStart =>
    refine ⟨0, [], .slice none 0 0, _, rfl, rfl, Nat.zero_le _, rfl, rfl, World.ownsRow_nil _ _ _ _, (fun i e h => by simp [Rl.sides] at h), ((Only.refl _ _).alloc _).alloc _, ?_, ?_⟩
    · exact (cell_of_row _ _ _ _ _ _ (two_at _ _ _)).trans rfl
    · exact ⟨_, _, two_at _ _ _⟩
  case round =>
    obtain ⟨k, xs, vE, W, hW, rfl, hk, rfl, rfl, hown, htx, hon, hc0, cs0, z0, hb0⟩ := hrel
    subst hW
    have HOW : Hid (W.ownsRow w2.heap.size 49 3 vE (Rl.sides (s.list.take k)).length xs) := hown
    have HTX : Hid (Txs w2 (fun b => b < w2.heap.size) (Rl.sides (s.list.take k)) xs) := htx
    have HON : Hid (Only (fun b => w2.heap.size ≤ b) w2 W) := hon
    have HB0 : Hid (W.heap[w2.heap.size]? = some (.cells cs0 61 z0)) := hb0
    have hlw : w2.heap.size < W.heap.size := (Array.getElem?_eq_some_iff.1 hb0).1
    obtain ⟨aE, cE, rfl⟩ := own_form hown
    clear hown htx hon hb0
    by_cases hlt : k < nl
    · have t1 : (k : Int) < (nl : Int) := by omega
      obtain ⟨r, hr⟩ : ∃ r, s.list[k]? = some r := ⟨_, List.getElem?_eq_getElem (by rw [← HNL.out]; exact hlt)⟩
      obtain ⟨g, op, st, a1, m1, c1, op', st', a2, m2, c2, rfl, hgl, e0, e1, e2, e3, e4, e5, e6, tl, tr⟩ := HTL.out k r hr
      have d0 := old_cell HON.out e0
      have d1 := old_cell HON.out e1
      have d2 := old_cell HON.out e2
      have d3 := old_cell HON.out e3
      have d4 := old_cell HON.out e4
      have d5 := old_cell HON.out e5
      have d6 := old_cell HON.out e6
      have hgl2 : g < W.heap.size := by omega
      have HTE : Hid (Te w2 (fun b => b < w2.heap.size) r.left (.agg #[.int .u8 op, .int .u32 st, .slice a1 m1 c1]) ∧ Te w2 (fun b => b < w2.heap.size) r.right (.agg #[.int .u8 op', .int .u32 st', .slice a2 m2 c2])) := ⟨tl, tr⟩
      have HST : Hid (Rl.sides (s.list.take (k + 1)) = Rl.sides (s.list.take k) ++ [r.left, r.right]) := sides_take s.list k r hr
      have hsl : (Rl.sides (s.list.take k)).length = 2 * k := by rw [sides_len, List.length_take]; have := HNL.out; omega
      have HSL : Hid ((Rl.sides (s.list.take k)).length = 2 * k) := hsl
      clear e0 e1 e2 e3 e4 e5 e6 tl tr hr hsl
      go_wp2_with (at_builtin; refine wpList_append_own_at _ rfl _ _ 27 rfl w2.heap.size 49 i9 _ 3 32 Try.underlying27 h9 h90 h91 h92 rfl (by decide) _ _ _ rfl ((HOW.out.alloc (.cells #[.int .u8 r.does, .int .u8 op, .int .u32 st, .slice a1 m1 c1, .int .u8 op', .int .u32 st', .slice a2 m2 c2] 69)).alloc (.cells #[.int .u8 op, .int .u32 st, .slice a1 m1 c1, .int .u8 op', .int .u32 st', .slice a2 m2 c2] 49)) ⟨W.heap.size + 1, 0, none⟩ 2 2 [.int .u8 op, .int .u32 st, .slice a1 m1 c1, .int .u8 op', .int .u32 st', .slice a2 m2 c2] rfl rfl (World.news_of_block (heap_alloc2_new W _ _)) (fun u hu => by simp at hu; rcases hu with rfl | rfl | rfl | rfl | rfl | rfl <;> rfl) (by unfold maxLen; have := HSL.out; omega) (by have := HSL.out; omega) (by simp; omega) ?_; intro v8 w8 hown8 hg8 _ _; have HO8 : Hid (Only (fun q => (Value.slice aE (Rl.sides (s.list.take k)).length cE).ownBlock = some q) ((W.alloc (.cells #[.int .u8 r.does, .int .u8 op, .int .u32 st, .slice a1 m1 c1, .int .u8 op', .int .u32 st', .slice a2 m2 c2] 69)).alloc (.cells #[.int .u8 op, .int .u32 st, .slice a1 m1 c1, .int .u8 op', .int .u32 st', .slice a2 m2 c2] 49)) w8) := (Only.refl _ _).grown hg8 (fun k h => h); have HW8 : Hid (w8.ownsRow w2.heap.size 49 3 v8 ((Rl.sides (s.list.take k)).length + 2) (xs ++ [.int .u8 op, .int .u32 st, .slice a1 m1 c1, .int .u8 op', .int .u32 st', .slice a2 m2 c2])) := hown8; clear hown8 hg8)
      have hA2 : Only (fun _ => False) W ((W.alloc (.cells #[.int .u8 r.does, .int .u8 op, .int .u32 st, .slice a1 m1 c1, .int .u8 op', .int .u32 st', .slice a2 m2 c2] 69)).alloc (.cells #[.int .u8 op, .int .u32 st, .slice a1 m1 c1, .int .u8 op', .int .u32 st', .slice a2 m2 c2] 49)) := ((Only.refl _ _).alloc _).alloc _
      have hb1 := (hA2.block _ hlw (fun h => h)).trans HB0.out
      have hb8 := (HO8.out.block _ (Array.getElem?_eq_some_iff.1 hb1).1 (fun e => own_ne ((HOW.out.alloc _).alloc _) hb1 (by decide) e)).trans hb1
      go_roundg (nl - (k + 1))
      case measure => omega
      case rel =>
        refine ⟨k + 1, xs ++ [.int .u8 op, .int .u32 st, .slice a1 m1 c1, .int .u8 op', .int .u32 st', .slice a2 m2 c2], v8, w8, rfl, rfl, by omega, rfl, by go_num, ?_, ?_, HON.out.trans ((hA2.mono (fun _ h => h.elim)).trans (HO8.out.mono (fun q hq => (HOW.out.lt q hq).1))), ?_, cs0, z0, hb8⟩
        · rw [HST.out, List.length_append]
          exact HW8.out
        · rw [HST.out]
          have hx : xs.length = (Rl.sides (s.list.take k)).length * 3 := HOW.out.1
          have e1 := HTX.out.snoc hx HTE.out.1
          have e2 := e1.snoc (by simp [hx]; omega) HTE.out.2
          rw [List.append_assoc, List.append_assoc] at e2
          exact e2
        · exact (World.cell?_of_block (a := ⟨w2.heap.size, 0, none⟩) (hb8.trans HB0.out.symm)).trans hc0
    · have t2 : decide ((k : Int) < (nl : Int)) = false := decide_eq_false (by omega)
      obtain rfl : nl = k := by omega
      have hst : s.list.take nl = s.list := by rw [HNL.out]; exact List.take_length
      have HST : Hid (s.list.take nl = s.list) := hst
      clear hst
      have HKEY : Hid (∀ m, exsP w n (.returned (.tuple #[.slice aE (Rl.sides (s.list.take nl)).length cE, .int .i64 (s.cls.length : Int)])) (W.drewN m)) := fun m => by
        have h1 := HOW.out
        have h2 := HTX.out
        rw [HST.out] at h1 h2 ⊢
        have hkp : Kp w2 (W.drewN m) (fun b => b < w2.heap.size) := Kp.only (HON.out.drewN m) (fun b hb => by omega)
        have hs3 : (W.drewN m).heap.size = W.heap.size := rfl
        obtain ⟨a', c', hv, hlex⟩ := Lex.of (W := W.drewN m) h2 (own_drewN h1 m) hkp (fun b hb => by omega) (by rw [sides_len]; have := HLL.out; omega)
        refine ⟨s, a', c', by rw [hv, HCL.out], hlex, HFI.out, HCL.out, HLL.out, ?_⟩
        have e1 : Only (fun q => w.heap.size ≤ q) w (W.drewN m) := (HO2.out.mono (fun _ h => h.elim)).trans ((HON.out.mono (fun q hq => Nat.le_trans HO2.out.size hq)).drewN m)
        exact e1.old (fun _ h => Or.inl h)
      go_wp2_with fail
      go_quiet (fail)
      go_wp2_with fail
      go_ret2
      exact HKEY.out _
end Go.Proofs.Ytfbcijnacbfjpaa
