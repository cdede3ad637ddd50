/-
  stanzalaw04.AutoMore: its walk.
-/
import Derived.Test.YtfbcijnacbfjpabAm0x
import Derived.Test.YtfbcijnacbfjpabGl3x
import Derived.Test.YtfbcijnacbfjpabEx1x
import Derived.BigRegion
import Derived.BigQuiet
import Derived.Deep.RegionHeldLaw
import Derived.Deep.RegionHeld3
namespace Go.Proofs.Ytfbcijnacbfjpab
open Go.RowKit Go.Maps
set_option linter.unusedVariables false
set_option linter.unusedSimpArgs false
open Rl (Ex)
theorem Iw.at {w : World} {a : Option Addr} {L : Nat} {C : List Int} (h : Iw w a L C) {i : Nat} (hi : i < L) : ∃ b off x, a = some ⟨b, off, none⟩ ∧ b < w.heap.size ∧ C[i]? = some x ∧ ∀ W, Only (fun _ => False) w W → W.cell? ⟨b, off + i, none⟩ = some (.int .i64 x) := by
  obtain ⟨hl, b, off, h1, h2⟩ := h
  obtain ⟨ha, hb⟩ := h1 (by omega)
  have hx : C[i]? = some C[i] := List.getElem?_eq_getElem (by omega)
  exact ⟨b, off, _, ha, hb, hx, fun W ho => (World.cell?_of_block (a := ⟨b, off + i, none⟩) (ho.block b hb (fun h => h))).trans (h2 i _ hx)⟩
theorem Lex.keep {w w' : World} {F F' : Nat → Prop} {es : List Ex} {a : Option Addr} {c : Nat} (h : Lex w F es a c) (ho : Only (fun _ => False) w w') (hF : ∀ b, F b → F' b) : Lex w' F' es a c := by
  refine ⟨h.1, fun hn => ?_⟩
  obtain ⟨b, off, h1, h2, h3⟩ := h.2 hn
  exact ⟨b, off, h1, hF b h2, Tes.keep (Kp.only ho (fun _ _ h => h)) hF es b off h2 h3⟩
theorem Tes.take {w : World} {F : Nat → Prop} : ∀ (es : List Ex) (b off k : Nat), Tes w F es b off → Tes w F (es.take k) b off
  | [], b, off, k, h => by simp; unfold Tes; trivial
  | e :: es, b, off, 0, h => by simp; unfold Tes; trivial
  | e :: es, b, off, k + 1, h => by
    rw [List.take_succ_cons]
    unfold Tes at h ⊢
    exact ⟨h.1, Tes.take es b (off + 3) k h.2⟩
theorem Lex.take {w : World} {F : Nat → Prop} {es : List Ex} {a : Option Addr} {c : Nat} (h : Lex w F es a c) (k : Nat) : Lex w F (es.take k) a c := by
  refine ⟨by have := h.1; rw [List.length_take]; omega, fun hn => ?_⟩
  obtain ⟨b, off, h1, h2, h3⟩ := h.2 (fun e => by subst e; simp at hn)
  exact ⟨b, off, h1, h2, Tes.take es b off k h3⟩
theorem mk_more (es : List Ex) (a : Option Addr) (c : Nat) (cl : Int) (w : World) (hL : Lex w (fun b => b < w.heap.size) es a c) (hD : ∀ e ∈ es, Au.dp e ≤ 1000000) (h1 : 1 ≤ cl) (h2 : cl ≤ 24) (h3 : es.length ≤ 24) (h4 : Au.cnts es ≤ 200) :
    Calls Try.prog 6 #[.slice a es.length c, .int .i64 cl] w fun e w1 => ∃ (aN : Option Addr) (nN cN : Nat) (aO : Option Addr) (nO cO : Nat) (k : Int), e = .returned (.tuple #[.agg #[.slice aN nN cN, .slice aO nO cO], .int .i64 k]) ∧ Only (fun _ => False) w w1 ∧
      (k = 27 ∨ (k = 0 ∧ ∃ nx o, Au.make es cl = .ok (nx, o) ∧ Aut w1 w.heap.size cl.toNat (.agg #[.slice aN nN cN, .slice aO nO cO]) nx o)) := by
  refine Calls.mono (make_all _ es a c cl w hL (fun b h => h) hD) ?_
  rintro e w1 ⟨hm, ho⟩
  cases hR : Au.make es cl with
  | error k =>
    rw [hR] at hm
    simp only at hm
    have hk := Au.make_fault es cl h1 h2 h3 h4 k hR
    subst hk
    exact ⟨none, 0, 0, none, 0, 0, 27, hm, ho, Or.inl rfl⟩
  | ok r =>
    obtain ⟨nx, o⟩ := r
    rw [hR] at hm
    simp only at hm
    obtain ⟨v, rfl, hA⟩ := hm
    obtain ⟨aN, cN, aO, cO, rfl⟩ := hA.form
    exact ⟨aN, _, cN, aO, _, cO, 0, rfl, ho, Or.inr ⟨rfl, nx, o, rfl, hA⟩⟩
theorem wrapu_small (x : Int) (h0 : 0 ≤ x) (h1 : x < 2 ^ 64) : IntKind.u64.wrap x = x := by
  simp only [IntKind.wrap, IntKind.bits, IntKind.signed]
  simp
  omega
theorem wrapu_nn (x : Int) : 0 ≤ IntKind.u64.wrap x := by
  simp only [IntKind.wrap, IntKind.bits, IntKind.signed]
  simp
  omega
theorem own_iw {w : World} {base n g cap : Nat} {D : List Int} (h : w.ownsRow base 3 1 (.slice (some ⟨g, 0, none⟩) n cap) n (ints D)) (hl : D.length = n) (hg : g < w.heap.size) : Iw w (some ⟨g, 0, none⟩) n D := by
  refine ⟨hl, g, 0, fun _ => ⟨rfl, hg⟩, fun j x hj => ?_⟩
  have := own_news h hl j (.int .i64 x) (by unfold ints; rw [List.getElem?_map, hj]; rfl)
  rw [Addr.add_mid] at this
  exact this
theorem cnts_take_le' : ∀ (es : List Ex) (i : Nat), Au.cnts (es.take i) ≤ Au.cnts es
  | [], i => by simp
  | e :: es, 0 => by simp [Au.cnts]
  | e :: es, i + 1 => by
    have := cnts_take_le' es i
    simp only [List.take_succ_cons, Au.cnts]
    omega
theorem mask32 (O k : Nat) (hO : O < 2 ^ 24) (hk : k ≤ 24) : bits .and .u32 (O : Int) ((2 ^ k - 1 : Nat) : Int) = ((O % 2 ^ k : Nat) : Int) := by
  show IntKind.u32.wrap ((BitVec.ofInt 32 (O : Int) &&& BitVec.ofInt 32 ((2 ^ k - 1 : Nat) : Int)).toNat : Int) = _
  have h2 : (2 : Nat) ^ k ≤ 2 ^ 24 := Nat.pow_le_pow_right (by decide) hk
  have h3 : (2 : Nat) ^ 24 < 2 ^ 32 := by decide
  rw [BitVec.toNat_and, BitVec.ofInt_natCast, BitVec.ofInt_natCast, BitVec.toNat_ofNat, BitVec.toNat_ofNat, Nat.mod_eq_of_lt (by omega : O < 2 ^ 32), Nat.mod_eq_of_lt (by omega : 2 ^ k - 1 < 2 ^ 32), Nat.and_two_pow_sub_one_eq_mod, IntKind.wrap_u32]
  have : O % 2 ^ k ≤ O := Nat.mod_le _ _
  omega
theorem own_e (w : World) : (w.alloc (.cells #[] 3)).ownsRow w.heap.size 3 1 (.slice (some ⟨w.heap.size, 0, none⟩) 0 0) 0 (ints []) := own_e0 (heap_alloc_new w _) (Nat.le_refl _)
/-- a made automaton, as Run and Out read it. -/
structure Rdy (w : World) (n : Nat) (aN : Option Addr) (nN cN : Nat) (gO nO cO : Nat) (nx : List (List Nat)) (o : List Nat) : Prop where
  run : ∀ (W : World) (aV : Option Addr) (L M cap : Nat) (D : List Int), M = L + 1 → Only (fun _ => False) w W → Iw W aV L D → L ≤ 1000000 → (∀ c ∈ D, 0 ≤ c ∧ c < (n : Int)) →
    Calls Try.prog 7 #[.agg #[.slice aN nN cN, .slice (some ⟨gO, 0, none⟩) nO cO], .slice aV L cap] W fun e w' => ∃ g cp, e = .returned (.slice (some ⟨g, 0, none⟩) M cp) ∧ g < w'.heap.size ∧ (∀ (j x : Nat), (0 :: Au.runs nx 0 D)[j]? = some x → w'.cell? ⟨g, j, none⟩ = some (.int .i64 (x : Int))) ∧ Only (fun _ => False) W w'
  out : ∀ W, Only (fun _ => False) w W → ∀ (s x : Nat), o[s]? = some x → W.cell? ⟨gO, s, none⟩ = some (.int .u32 (x : Int))
  len : nO = o.length ∧ nx.length = o.length ∧ gO < w.heap.size
theorem Aut.rdy {w : World} {lo n : Nat} {es : List Ex} {aN : Option Addr} {nN cN : Nat} {aO : Option Addr} {nO cO : Nat} {nx : List (List Nat)} {o : List Nat} (hm : Au.make es (n : Int) = .ok (nx, o)) (hA : Aut w lo n (.agg #[.slice aN nN cN, .slice aO nO cO]) nx o) (hn : n ≤ 24) : ∃ gO, aO = some ⟨gO, 0, none⟩ ∧ Rdy w n aN nN cN gO nO cO nx o := by
  obtain ⟨_, _, _, nds, p, Fd, hall, h00, hnl, hol, hF3, hOk⟩ := Au.make_says es (n : Int) nx o hm
  rw [Int.toNat_natCast] at hOk
  have hFd0 : 0 < Fd.length := (List.getElem?_eq_some_iff.1 h00).1
  obtain ⟨ws, hNw, hnN, hnO, hnM, hws, gO, haO, hgO, hcO⟩ := aut_nw hA (by omega) (by omega) (by omega)
  subst haO
  refine ⟨gO, rfl, ⟨?_, fun W hW s x hx => (World.cell?_of_block (a := ⟨gO, s, none⟩) (hW.block _ hgO (fun h => h))).trans (hcO s x hx), hnO, by omega, hgO⟩⟩
  intro W aV L M cap D hM hW hI hL hD
  subst hM
  have hRE := run_runs hws (ok_nexts hnl hOk) D 0 (by omega) hD
  refine Calls.mono (run_any aN nN cN (some ⟨gO, 0, none⟩) nO cO ws aV L cap D W (hNw.keep hW) hnM (by omega) hI hL) ?_
  rintro e w' ⟨v, rfl, hown, ho⟩
  rw [show ((0 : Nat) : Int) = 0 from rfl] at hRE
  rw [hRE, List.length_map, Au.runs_len, hI.1] at hown
  obtain ⟨g, cp, rfl, hg, _, hc⟩ := own_cells hown (by omega)
  refine ⟨g, cp, rfl, hg, fun j x hx => hc j _ ?_, ho⟩
  unfold ints
  rw [show (0 : Int) :: (Au.runs nx 0 D).map (fun (t : Nat) => (t : Int)) = (0 :: Au.runs nx 0 D).map (fun (t : Nat) => (t : Int)) by rfl, List.getElem?_map, List.getElem?_map, hx]
  rfl
end Go.Proofs.Ytfbcijnacbfjpab
namespace Go.Proofs.Ytfbcijnacbfjpab
open Go.RowKit Go.Maps
set_option linter.unusedVariables false
set_option linter.unusedSimpArgs false
open Rl (Ex)
set_option maxRecDepth 100000 in
set_option maxHeartbeats 16000000 in
theorem more (c jo af : Nat) (aT : Option Addr) (nT cT : Nat) (T : List Nat) (aR : Option Addr) (nR cR : Nat) (rs : List Pr) (aC : Option Addr) (L cC : Nat) (C : List Int) (f : Nat) (w : World) (hc : c ≤ 255) (hjo : jo ≤ 255) (haf : af ≤ 255) (hT : Bw w aT nT T) (hR : Rw w aR nR rs) (hC : Iw w aC L C) (hLm : L ≤ maxLen) (hf : f ≤ 255) :
    Calls Try.prog 3 #[planV c jo af aT nT cT aR nR cR, .slice aC L cC, .int .u8 (f : Int)] w fun e w' => e = .returned (.bool true) ∧ Only (fun _ => False) w w' := by
  have HT : Hid (Bw w aT nT T) := hT
  have HR : Hid (Rw w aR nR rs) := hR
  have HC : Hid (Iw w aC L C) := hC
  unfold maxLen at hLm
  clear hT hR hC
  have B0 : Hid ((w.alloc (.cells #[.int .u8 (c : Int), .int .u8 (jo : Int), .int .u8 (af : Int), .slice aT nT cT, .slice aR nR cR] 25)).heap[w.heap.size]? = some (.cells #[.int .u8 (c : Int), .int .u8 (jo : Int), .int .u8 (af : Int), .slice aT nT cT, .slice aR nR cR] 25 (0, 0))) := heap_alloc_new _ _
  obtain ⟨n, hn⟩ : ∃ n, n = 1 + c % 6 := ⟨_, rfl⟩
  have HN : Hid (n = 1 + c % 6) := hn
  have hn1 : 1 ≤ n := by omega
  have hn6 : n ≤ 6 := by omega
  obtain ⟨i0, hi0, hz0, hz1, hz2⟩ := info_parts info3'
  clear hn
  have hf0 : IntKind.i64.wrap (f : Int) = (f : Int) := wrap_small _ (by omega) (by omega)
  unfold planV
  go_enter Try.func3, Try.ntmps3
  go_wp2_with (first
    | (go_at_call 4; refine (awake_any _).mono ?_; rintro e w1 ⟨rfl, ho1⟩; have HO1 : Hid (Only (fun _ => False) w w1) := ((Only.refl _ _).alloc _).trans ho1; have hb := (ho1.block _ (Array.getElem?_eq_some_iff.1 B0.out).1 (fun h => h)).trans B0.out; have y0 : w1.cell? ⟨w.heap.size, 0, none⟩ = some (.int .u8 (c : Int)) := cell_blk hb; have y1 : w1.cell? ⟨w.heap.size, 1, none⟩ = some (.int .u8 (jo : Int)) := cell_blk hb; have y2 : w1.cell? ⟨w.heap.size, 2, none⟩ = some (.int .u8 (af : Int)) := cell_blk hb; have y3 : w1.cell? ⟨w.heap.size, 3, none⟩ = some (.slice aT nT cT) := cell_blk hb; have y4 : w1.cell? ⟨w.heap.size, 4, none⟩ = some (.slice aR nR cR) := cell_blk hb; have hl1 : w.heap.size < w1.heap.size := (Array.getElem?_eq_some_iff.1 hb).1; clear ho1 hb))
  have hq := exprs_any c jo af aT nT cT T aR nR cR rs w1 hc hjo haf (HT.out.keep HO1.out) (HR.out.keep HO1.out)
  unfold planV at hq
  rw [← HN.out] at hq
  refine hq.mono ?_
  clear hq
  rintro e w2 ⟨s, aE, cE, rfl, hLx, hFi, hcl, hll, ho2, hEc⟩
  have HO2 : Hid (Only (fun _ => False) w w2) := HO1.out.trans ho2
  obtain ⟨es, hes⟩ : ∃ es, es = Rl.sides s.list := ⟨_, rfl⟩
  have hdp := hFi.dp
  have hcn := hFi.cn
  have hpl := hFi.pl
  have hel : es.length ≤ 20 := by rw [hes, sides_len]; omega
  rw [← hes] at hLx hEc hdp hcn ⊢
  have HLX : Hid (Lex w2 (fun b => b < w2.heap.size) es aE cE) := hLx
  have HDP : Hid (∀ e ∈ es, Au.dp e ≤ 1000000) := fun e he => Nat.le_trans (Au.dps_mem _ _ he) (by omega)
  have HCN : Hid (Au.cnts es ≤ 200) := (by show _ ≤ _; omega)
  obtain ⟨E, hE⟩ : ∃ E, E = es.length := ⟨_, rfl⟩
  have HE : Hid (E = es.length) := hE
  have HCL : Hid _ := mk_more es aE cE (n : Int) w2 hLx HDP.out (by omega) (by omega) (by omega) HCN.out
  rw [← hE] at HCL hEc ⊢
  have hE20 : E ≤ 20 := by omega
  obtain ⟨E1, hE1⟩ : ∃ E1, E1 = E + 1 := ⟨_, rfl⟩
  obtain ⟨k, hk⟩ : ∃ k, k = f % E1 := ⟨_, rfl⟩
  have hkE : k ≤ E := by have := Nat.mod_lt f (show 0 < E1 by omega); omega
  have m1 : IntKind.i64.wrap ((E : Int) + 1) = (E1 : Int) := by rw [hE1]; push_cast; exact wrap_small _ (by omega) (by omega)
  have m2 : (f : Int).tmod (E1 : Int) = (k : Int) := by rw [Int.tmod_eq_emod_of_nonneg (by omega), hk]; push_cast; rfl
  have m3 : ((E1 : Int) == 0) = false := by simp; omega
  have m4 : ¬ (E1 : Int) = 0 := by omega
  have m5 : IntKind.i64.wrap (k : Int) = (k : Int) := wrap_small _ (by omega) (by omega)
  have HE1 : Hid (E1 = E + 1) := hE1
  clear hk hE1 hE hes hLx hFi hcl hll ho2 hdp hcn hpl hel y0 y1 y2 y3 y4
  have hkc : (k : Int) ≤ (cE : Int) := by omega
  go_wp2_with (first
    | (go_at_call 6; refine Calls.mono HCL.out ?_; rintro e w3 ⟨aN, nN, cN, aO, nO, cO, kA, rfl, ho3, h3⟩; have HO3 : Hid (Only (fun _ => False) w w3) := HO2.out.trans ho3; have HO23 : Hid (Only (fun _ => False) w2 w3) := ho3; clear HCL ho3))
  have hkl : (es.take k).length = k := by rw [List.length_take]; have := HE.out; omega
  have hcb := mk_more (es.take k) aE cE (n : Int) (w3.alloc (.cells #[.slice aN nN cN, .slice aO nO cO] 34)) ((HLX.out.keep (HO23.out.alloc _) (fun b h => by have := HO23.out.size; simp; omega)).take k) (fun e he => HDP.out e (List.mem_of_mem_take he)) (by omega) (by omega) (by rw [hkl]; omega) (by have := cnts_take_le' es k; have := HCN.out; omega)
  rw [hkl] at hcb
  refine Calls.mono hcb ?_
  clear hcb hkl
  rintro e w4 ⟨aM, nM, cM, aP, nP, cP, kB, rfl, ho4, h4⟩
  have HO34 : Hid (Only (fun _ => False) (w3.alloc (.cells #[.slice aN nN cN, .slice aO nO cO] 34)) w4) := ho4
  have HO4 : Hid (Only (fun _ => False) w w4) := (HO3.out.alloc _).trans ho4
  clear ho4
  rcases h3 with rfl | ⟨rfl, nx, o, hmk, hA⟩
  · clear h4
    go_wp2_with fail
    go_ret
    exact ⟨rfl, HO4.out.alloc _⟩
  rcases h4 with rfl | ⟨rfl, nx1, o1, hmk1, hA1⟩
  · clear hA hmk
    go_wp2_with fail
    go_ret
    exact ⟨rfl, HO4.out.alloc _⟩
  rw [Int.toNat_natCast] at hA hA1
  obtain ⟨gO, rfl, hRA⟩ := hA.rdy hmk (by omega)
  obtain ⟨gP, rfl, hRB⟩ := hA1.rdy hmk1 (by omega)
  have HRA : Hid (Rdy w3 n aN nN cN gO nO cO nx o) := hRA
  have HRB : Hid (Rdy w4 n aM nM cM gP nP cP nx1 o1) := hRB
  have hsp : es = es.take k ++ es.drop k := (List.take_append_drop k es).symm
  have hek : (es.take k).length = k := by rw [List.length_take]; have := HE.out; omega
  have HFW : Hid (nx1.length ≤ nx.length) := by
    have hmk' := hmk
    rw [hsp] at hmk'
    exact Au.make_fewer (es.take k) (es.drop k) (n : Int) nx nx1 o o1 hmk' hmk1
  have HCUT : Hid (∀ (D : List Int), (∀ c ∈ D, 0 ≤ c ∧ c < (n : Int)) → ∀ i s t, (0 :: Au.runs nx 0 D)[i]? = some s → (0 :: Au.runs nx1 0 D)[i]? = some t → s < o.length ∧ t < o1.length ∧ ∃ O, o[s]? = some O ∧ O < 2 ^ 24 ∧ o1[t]? = some (O % 2 ^ k)) := fun D hD i s t hs ht => by
    have hmk' := hmk
    rw [hsp] at hmk'
    have := Au.make_cut (es.take k) (es.drop k) (n : Int) nx nx1 o o1 hmk' hmk1 D hD i s t hs ht
    rw [hek] at this
    exact this
  clear hmk hmk1 hA hA1 hRA hRB hsp hek
  by_cases hL : 200 < L
  · have h40 : (200 : Int) < (L : Int) := by omega
    go_wp2_with fail
    go_ret
    exact ⟨rfl, HO4.out.alloc _⟩
  have h40 : ¬ (200 : Int) < (L : Int) := by omega
  go_wp2_with fail
  go_loopg [14, 67] L (fun gh v14 v67 wr => ∃ (j g cap : Nat) (D : List Int) (V : World), V = wr ∧ gh = L - j ∧ j ≤ L ∧ v14 = .slice (some ⟨g, 0, none⟩) j cap ∧ v67 = .int .i64 (j : Int) ∧ D.length = j ∧ (∀ x ∈ D, 0 ≤ x ∧ x < (n : Int)) ∧ V.ownsRow (w4.heap.size + 1) 3 1 (.slice (some ⟨g, 0, none⟩) j cap) j (ints D) ∧ Only (fun _ => False) (w4.alloc (.cells #[.slice aM nM cM, .slice (some ⟨gP, 0, none⟩) nP cP] 34)) V)
  case atStart =>
    refine ⟨0, w4.heap.size + 1, 0, [], _, rfl, rfl, Nat.zero_le _, rfl, rfl, rfl, fun x hx => by simp at hx, ?_, (Only.refl _ _).alloc _⟩
    exact own_e0 (heap_alloc2_new w4 _ _) (Nat.le_refl _)
  case round =>
    obtain ⟨j, g, cap, D, V, hV, rfl, hj, rfl, rfl, hDl, hDn, hown, hoV⟩ := hrel
    subst hV
    have HOW : Hid (V.ownsRow (w4.heap.size + 1) 3 1 (.slice (some ⟨g, 0, none⟩) j cap) j (ints D)) := hown
    have HDL : Hid (D.length = j) := hDl
    have HDN : Hid (∀ x ∈ D, 0 ≤ x ∧ x < (n : Int)) := hDn
    have HOV : Hid (Only (fun _ => False) (w4.alloc (.cells #[.slice aM nM cM, .slice (some ⟨gP, 0, none⟩) nP cP] 34)) V) := hoV
    have hvs : w4.heap.size + 1 ≤ V.heap.size := by have := hoV.size; simp at this; omega
    obtain ⟨_, _, hgs, hgb, hgl, hgc⟩ := own_addr hown (by intro e; cases e)
    injection hgs with hgs hgs2 hgs3
    injection hgs with hgs
    injection hgs with hgs
    rw [← hgs] at hgb hgl
    clear hown hDl hDn hoV hgs hgs2 hgs3 hgc
    by_cases hlt : j < L
    · have t1 : (j : Int) < (L : Int) := by omega
      have HCV : Hid (Iw V aC L C) := (HC.out.keep ((HO4.out.alloc _).trans HOV.out))
      obtain ⟨b, off, x, rfl, hbl, hx, hcx⟩ := HCV.out.at hlt
      have cx := hcx V (Only.refl _ _)
      have p0 : (0 : Int) < (n : Int) := by omega
      have p1 : ¬ (n : Int) = 0 := by omega
      have p2 : ((n : Int) == 0) = false := by simpa using p1
      have p3 : IntKind.u64.wrap (n : Int) = (n : Int) := wrapu_small _ (by omega) (by omega)
      obtain ⟨ux, p4, p5⟩ : ∃ ux : Int, IntKind.u64.wrap x = ux ∧ 0 ≤ ux := ⟨_, rfl, wrapu_nn x⟩
      obtain ⟨r, p6, p7, p8⟩ : ∃ r : Int, ux.tmod (n : Int) = r ∧ 0 ≤ r ∧ r < (n : Int) := ⟨_, rfl, Int.tmod_nonneg _ p5, Int.tmod_lt_of_pos _ p0⟩
      have p9 : IntKind.u64.wrap r = r := wrapu_small _ (by omega) (by omega)
      have p10 : IntKind.i64.wrap r = r := wrap_small _ (by omega) (by omega)
      clear p5 hx hcx
      go_wp2_with (at_builtin; refine wpList_append_own_at _ rfl _ _ 26 rfl (w4.heap.size + 1) 3 i0 (.int .i64 0) 1 8 Try.underlying26 hi0 hz0 hz1 hz2 rfl (by decide) _ _ _ rfl (HOW.out.alloc (.cells #[.int .i64 r] 3)) ⟨V.heap.size, 0, none⟩ 1 1 [.int .i64 r] rfl rfl (news1 _ _ _) (fun u hu => by simp at hu; subst hu; rfl) (by unfold maxLen; omega) (by omega) (by simp; omega) ?_; intro v6 w6 hown6 hg6 _ _; obtain ⟨g6, cap6, rfl, hgb6, hgl6, hgc6, _⟩ := row_form hown6 (by omega))
      have o1 : Only (· = g) (V.alloc (.cells #[.int .i64 r] 3)) w6 := (Only.refl (· = g) _).grown hg6 (fun k h => by injection h with h; exact h.symm)
      have o2 : Only (· = g) (w4.alloc (.cells #[.slice aM nM cM, .slice (some ⟨gP, 0, none⟩) nP cP] 34)) w6 := ((HOV.out.alloc _).mono (fun _ h => h.elim)).trans o1
      have o3 : Only (fun _ => False) (w4.alloc (.cells #[.slice aM nM cM, .slice (some ⟨gP, 0, none⟩) nP cP] 34)) w6 := ⟨o2.os, o2.tape, o2.output, o2.size, fun b hb _ => o2.block b hb (by simp at hb; omega)⟩
      have hints : ints D ++ [.int .i64 r] = ints (D ++ [r]) := by unfold ints; simp
      rw [hints] at hown6
      go_roundg (L - (j + 1))
      case measure => omega
      case rel => exact ⟨j + 1, g6, cap6, D ++ [r], w6, rfl, rfl, by omega, rfl, by go_num, by rw [List.length_append, HDL.out]; rfl, fun x hx => by
        rcases List.mem_append.1 hx with hx | hx
        · exact HDN.out x hx
        · simp only [List.mem_singleton] at hx
          subst hx
          exact ⟨p7, p8⟩, hown6, o3⟩
    · have t2 : decide ((j : Int) < (L : Int)) = false := decide_eq_false (by omega)
      obtain rfl : L = j := by omega
      go_wp2_with fail
      have HIV : Hid (Iw V (some ⟨g, 0, none⟩) L D) := own_iw HOW.out HDL.out hgl
      have HV4 : Hid (Only (fun _ => False) w4 V) := ((Only.refl _ _).alloc _).trans HOV.out
      have HV3 : Hid (Only (fun _ => False) w3 V) := (((Only.refl _ _).alloc _).trans HO34.out).trans HV4.out
      have HBA : Hid (V.heap[w3.heap.size]? = some (.cells #[.slice aN nN cN, .slice (some ⟨gO, 0, none⟩) nO cO] 34 (0, 0))) := ((HO34.out.trans HV4.out).block _ (by simp) (fun h => h)).trans (heap_alloc_new w3 _)
      have HBB : Hid (V.heap[w4.heap.size]? = some (.cells #[.slice aM nM cM, .slice (some ⟨gP, 0, none⟩) nP cP] 34 (0, 0))) := (HOV.out.block _ (by simp) (fun h => h)).trans (heap_alloc_new w4 _)
      have HCE : Hid (∀ W, Only (fun _ => False) V W → (W.cell? ⟨w3.heap.size, 0, none⟩ = some (.slice aN nN cN) ∧ W.cell? ⟨w3.heap.size, 1, none⟩ = some (.slice (some ⟨gO, 0, none⟩) nO cO) ∧ W.cell? ⟨w4.heap.size, 0, none⟩ = some (.slice aM nM cM) ∧ W.cell? ⟨w4.heap.size, 1, none⟩ = some (.slice (some ⟨gP, 0, none⟩) nP cP))) := fun W hW => by
        have h1 := (hW.block _ (Array.getElem?_eq_some_iff.1 HBA.out).1 (fun h => h)).trans HBA.out
        have h2 := (hW.block _ (Array.getElem?_eq_some_iff.1 HBB.out).1 (fun h => h)).trans HBB.out
        exact ⟨cell_blk h1, cell_blk h1, cell_blk h2, cell_blk h2⟩
      obtain ⟨M, hM⟩ : ∃ M, M = L + 1 := ⟨_, rfl⟩
      have HM : Hid (M = L + 1) := hM
      have hM2 : M ≤ 201 := by omega
      clear hM
      obtain ⟨y0, y1, y2, y3⟩ := HCE.out V (Only.refl _ _)
      have l3 : w3.heap.size < V.heap.size := (Array.getElem?_eq_some_iff.1 HBA.out).1
      have l4 : w4.heap.size < V.heap.size := (Array.getElem?_eq_some_iff.1 HBB.out).1
      have HKA : Hid (∀ Wx, Only (fun _ => False) V Wx → Calls Try.prog 7 #[.agg #[.slice aN nN cN, .slice (some ⟨gO, 0, none⟩) nO cO], .slice (some ⟨g, 0, none⟩) L cap] Wx fun e w' => ∃ ga ca, e = .returned (.slice (some ⟨ga, 0, none⟩) M ca) ∧ ga < w'.heap.size ∧ (∀ (j x : Nat), (0 :: Au.runs nx 0 D)[j]? = some x → w'.cell? ⟨ga, j, none⟩ = some (.int .i64 (x : Int))) ∧ Only (fun _ => False) Wx w') := fun Wx hx => HRA.out.run Wx _ L M cap D HM.out (HV3.out.trans hx) (HIV.out.keep hx) (by omega) HDN.out
      have HKB : Hid (∀ Wx, Only (fun _ => False) V Wx → Calls Try.prog 7 #[.agg #[.slice aM nM cM, .slice (some ⟨gP, 0, none⟩) nP cP], .slice (some ⟨g, 0, none⟩) L cap] Wx fun e w' => ∃ ga ca, e = .returned (.slice (some ⟨ga, 0, none⟩) M ca) ∧ ga < w'.heap.size ∧ (∀ (j x : Nat), (0 :: Au.runs nx1 0 D)[j]? = some x → w'.cell? ⟨ga, j, none⟩ = some (.int .i64 (x : Int))) ∧ Only (fun _ => False) Wx w') := fun Wx hx => HRB.out.run Wx _ L M cap D HM.out (HV4.out.trans hx) (HIV.out.keep hx) (by omega) HDN.out
      clear hf0 hi0 hz0 hz1 hz2 m1 m2 m3 m4 m5 h40 t2 hkc hvs hgb hgl hn1 hLm hc hjo haf hEc hlt hj hL
      have hS0 := HCE.out V.drew (Only.refl _ _).drew
      clear y0 y1 y2 y3
      refine wp_region_held_drew (S := fun w' => w'.cell? ⟨w3.heap.size, 0, none⟩ = some (.slice aN nN cN) ∧ w'.cell? ⟨w3.heap.size, 1, none⟩ = some (.slice (some ⟨gO, 0, none⟩) nO cO) ∧ w'.cell? ⟨w4.heap.size, 0, none⟩ = some (.slice aM nM cM) ∧ w'.cell? ⟨w4.heap.size, 1, none⟩ = some (.slice (some ⟨gP, 0, none⟩) nP cP)) (by kernel_rfl) hS0 (fun hHeld => ?_)
      clear hS0
      refine wpAnyH_take (i := 0) (oi := { dst := some 81, op := _, type := _, pos := _, after := _, guard := _ }) (v := Value.agg #[.slice aN nN cN, .slice (some ⟨gO, 0, none⟩) nO cO]) rfl (by kernel_rfl) (by kernel_rfl) (by kernel_rfl) (fun _ _ _ h => h) (Or.inl ⟨by rfl, fun w hSw => by obtain ⟨q0, q1, q2, q3⟩ := hSw; first | (go_simp; done) | go_simp⟩) (by assumption) ?_
      simp only [Act.put, List.setIfInBounds_toArray, List.set_cons_zero, List.set_cons_succ]
      refine wpAnyH_take (i := 1) (oi := { dst := some 82, op := _, type := _, pos := _, after := _, guard := _ }) (v := Value.slice (some ⟨g, 0, none⟩) L cap) rfl (by kernel_rfl) (by kernel_rfl) (by kernel_rfl) (fun _ _ _ h => h) (Or.inl ⟨by rfl, fun w hSw => by first | (go_simp; done) | go_simp⟩) (by assumption) ?_
      simp only [Act.put, List.setIfInBounds_toArray, List.set_cons_zero, List.set_cons_succ]
      refine wpAnyH_take (i := 3) (oi := { dst := some 84, op := _, type := _, pos := _, after := _, guard := _ }) (v := Value.agg #[.slice aM nM cM, .slice (some ⟨gP, 0, none⟩) nP cP]) rfl (by kernel_rfl) (by kernel_rfl) (by kernel_rfl) (fun _ _ _ h => h) (Or.inl ⟨by rfl, fun w hSw => by obtain ⟨q0, q1, q2, q3⟩ := hSw; first | (go_simp; done) | go_simp⟩) (by assumption) ?_
      simp only [Act.put, List.setIfInBounds_toArray, List.set_cons_zero, List.set_cons_succ]
      refine wpAnyH_take (i := 4) (oi := { dst := some 85, op := _, type := _, pos := _, after := _, guard := _ }) (v := Value.slice (some ⟨g, 0, none⟩) L cap) rfl (by kernel_rfl) (by kernel_rfl) (by kernel_rfl) (fun _ _ _ h => h) (Or.inl ⟨by rfl, fun w hSw => by first | (go_simp; done) | go_simp⟩) (by assumption) ?_
      simp only [Act.put, List.setIfInBounds_toArray, List.set_cons_zero, List.set_cons_succ]
      refine wpAnyH_ready (rs := [2]) (by kernel_rfl) (by simp) ?_
      refine AllReadyH.cons rfl (fun K hK => ?_) AllReadyH.nil
      rw [if_pos (by rfl)]
      go_simp
      refine Calls.mono (HKA.out _ (Only.refl _ _).drew) ?_
      rintro e wA ⟨gA, cA, rfl, hgA, hcA, hoA⟩
      have HCA : Hid (∀ (j x : Nat), (0 :: Au.runs nx 0 D)[j]? = some x → wA.cell? ⟨gA, j, none⟩ = some (.int .i64 (x : Int))) := hcA
      have HVA : Hid (Only (fun _ => False) V wA) := (Only.refl _ _).drew.trans hoA
      clear hcA hoA
      refine hK.out _ _ (HCE.out _ HVA.out) (fun hHeld2 => ?_)
      (try simp only [Act.put, List.setIfInBounds_toArray, List.set_cons_zero, List.set_cons_succ])
      refine wpAnyH_ready (rs := [5]) (by kernel_rfl) (by simp) ?_
      refine AllReadyH.cons rfl (fun K hK => ?_) AllReadyH.nil
      rw [if_pos (by rfl)]
      go_simp
      refine Calls.mono (HKB.out _ HVA.out) ?_
      rintro e wB ⟨gB, cB, rfl, hgB, hcB, hoB⟩
      have HCB : Hid (∀ (j x : Nat), (0 :: Au.runs nx1 0 D)[j]? = some x → wB.cell? ⟨gB, j, none⟩ = some (.int .i64 (x : Int))) := hcB
      have HAB : Hid (Only (fun _ => False) wA wB) := hoB
      have HVB : Hid (Only (fun _ => False) V wB) := HVA.out.trans hoB
      clear hcB hoB
      refine hK.out _ _ (HCE.out _ HVB.out) (fun hHeld5 => ?_)
      (try simp only [Act.put, List.setIfInBounds_toArray, List.set_cons_zero, List.set_cons_succ])
      refine wpAnyH_take (i := 6) (oi := { dst := some 17, op := _, type := _, pos := _, after := _, guard := _ }) (v := Value.slice (some ⟨gA, 0, none⟩) M cA) rfl (by kernel_rfl) (by kernel_rfl) (by kernel_rfl) (fun _ _ _ h => h) (Or.inl ⟨by rfl, fun w hSw => by first | (go_simp; done) | go_simp⟩) (by assumption) ?_
      (try simp only [Act.put, List.setIfInBounds_toArray, List.set_cons_zero, List.set_cons_succ])
      refine wpAnyH_take (i := 7) (oi := { dst := some 18, op := _, type := _, pos := _, after := _, guard := _ }) (v := Value.slice (some ⟨gB, 0, none⟩) M cB) rfl (by kernel_rfl) (by kernel_rfl) (by kernel_rfl) (fun _ _ _ h => h) (Or.inl ⟨by rfl, fun w hSw => by first | (go_simp; done) | go_simp⟩) (by assumption) ?_
      (try simp only [Act.put, List.setIfInBounds_toArray, List.set_cons_zero, List.set_cons_succ])
      refine wpAnyH_done (by kernel_rfl) ?_ _
      clear hHeld hHeld2 hHeld5
      obtain ⟨y0, y1, y2, y3⟩ := HCE.out wB HVB.out
      have hle : ¬ (nO : Int) < (nP : Int) := by have h1 := HRA.out.len; have h2 := HRB.out.len; have h3 := HFW.out; omega
      have l3 : w3.heap.size < wB.heap.size := Nat.lt_of_lt_of_le l3 HVB.out.size
      have l4 : w4.heap.size < wB.heap.size := Nat.lt_of_lt_of_le l4 HVB.out.size
      have lA : gA < wB.heap.size := Nat.lt_of_lt_of_le hgA HAB.out.size
      obtain ⟨P, hP⟩ : ∃ P, P = 2 ^ k := ⟨_, rfl⟩
      have HP : Hid (P = 2 ^ k) := hP
      have hP1 : 1 ≤ P := by rw [hP]; exact Nat.two_pow_pos k
      have hP2 : P ≤ 16777216 := by rw [hP]; exact Nat.le_trans (Nat.pow_le_pow_right (by decide) (show k ≤ 24 by omega)) (by decide)
      have s1 : IntKind.u32.wrap (2 ^ k) = (P : Int) := by rw [hP, IntKind.wrap_u32]; push_cast; rw [hP] at hP2; have : ((2 : Int) ^ k) = ((2 ^ k : Nat) : Int) := by push_cast; rfl
                                                           rw [this]; omega
      have s2 : IntKind.u32.wrap (1 * 2 ^ k) = (P : Int) := by rw [Int.one_mul]; exact s1
      obtain ⟨Q, hQ⟩ : ∃ Q, Q = P - 1 := ⟨_, rfl⟩
      have HQ : Hid (Q = P - 1) := hQ
      have s3 : IntKind.u32.wrap ((P : Int) - 1) = (Q : Int) := by rw [hQ, IntKind.wrap_u32]; omega
      clear hP hQ hP1 hP2
      go_wp2_with fail
      go_loopg [103] M (fun gh v wr => ∃ (i : Nat) (W : World), W = wr ∧ gh = M - i ∧ i ≤ M ∧ v = .int .i64 (i : Int) ∧ Only (fun _ => False) wB W)
      case atStart => exact ⟨0, _, rfl, rfl, Nat.zero_le _, rfl, Only.refl _ _⟩
      case round =>
        obtain ⟨i, W, hW, rfl, hi, rfl, hoW⟩ := hrel
        subst hW
        have HOW2 : Hid (Only (fun _ => False) wB W) := hoW
        clear hoW y0 y1 y2 y3
        by_cases hli : i < M
        · have u1 : (i : Int) < (M : Int) := by omega
          obtain ⟨sx, hsx⟩ : ∃ sx, (0 :: Au.runs nx 0 D)[i]? = some sx := ⟨_, List.getElem?_eq_getElem (by have := HM.out; have := HDL.out; simp [Au.runs_len]; omega)⟩
          obtain ⟨tx, htx⟩ : ∃ tx, (0 :: Au.runs nx1 0 D)[i]? = some tx := ⟨_, List.getElem?_eq_getElem (by have := HM.out; have := HDL.out; simp [Au.runs_len]; omega)⟩
          obtain ⟨c1, c2, O, c3, c4, c5⟩ := HCUT.out D HDN.out i sx tx hsx htx
          have HVW : Hid (Only (fun _ => False) V W) := HVB.out.trans HOW2.out
          obtain ⟨y0, y1, y2, y3⟩ := HCE.out W HVW.out
          have y4 : W.cell? ⟨gA, i, none⟩ = some (.int .i64 (sx : Int)) := (World.cell?_of_block (a := ⟨gA, i, none⟩) ((HAB.out.trans HOW2.out).block _ hgA (fun h => h))).trans (HCA.out i sx hsx)
          have y5 : W.cell? ⟨gB, i, none⟩ = some (.int .i64 (tx : Int)) := (World.cell?_of_block (a := ⟨gB, i, none⟩) (HOW2.out.block _ hgB (fun h => h))).trans (HCB.out i tx htx)
          have y6 := HRA.out.out W (HV3.out.trans HVW.out) sx O c3
          have y7 := HRB.out.out W (HV4.out.trans HVW.out) tx _ c5
          obtain ⟨X, hX⟩ : ∃ X, X = O % 2 ^ k := ⟨_, rfl⟩
          have s4 : bits .and .u32 (O : Int) (Q : Int) = (X : Int) := by rw [HQ.out, HP.out, hX]; exact mask32 O k c4 (by omega)
          rw [← hX] at y7
          have k1 : (sx : Int) < (nO : Int) := by have := HRA.out.len; omega
          have k2 : (tx : Int) < (nP : Int) := by have := HRB.out.len; omega
          have k3 : sx < nO := by omega
          have k4 : tx < nP := by omega
          have z1 : w3.heap.size < W.heap.size := Nat.lt_of_lt_of_le l3 HOW2.out.size
          have z2 : w4.heap.size < W.heap.size := Nat.lt_of_lt_of_le l4 HOW2.out.size
          have z3 : gA < W.heap.size := Nat.lt_of_lt_of_le lA HOW2.out.size
          have z4 : gB < W.heap.size := Nat.lt_of_lt_of_le hgB HOW2.out.size
          have z5 : gO < W.heap.size := Nat.lt_of_lt_of_le HRA.out.len.2.2 (HV3.out.trans HVW.out).size
          have z6 : gP < W.heap.size := Nat.lt_of_lt_of_le HRB.out.len.2.2 (HV4.out.trans HVW.out).size
          clear hsx htx c1 c2 c3 c4 c5 hX
          go_wp2_with fail
          go_quiet (fail)
          go_wp2_with fail
          go_roundg (M - (i + 1))
          case measure => omega
          case rel => exact ⟨i + 1, _, rfl, rfl, by omega, by go_num, by first | exact HOW2.out.drew | exact HOW2.out.drewN _ | exact HOW2.out⟩
        · have u2 : decide ((i : Int) < (M : Int)) = false := decide_eq_false (by omega)
          go_wp2_with fail
          go_ret
          exact ⟨rfl, HO4.out.trans ((HV4.out.trans HVB.out).trans HOW2.out)⟩
end Go.Proofs.Ytfbcijnacbfjpab
