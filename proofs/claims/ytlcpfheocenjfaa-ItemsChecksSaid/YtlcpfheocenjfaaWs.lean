/-
  The laws' own texts out of small numbers: some bytes.
-/
import Derived.Test.YtlcpfheocenjfaaVb
import Derived.Deep.AppendSrc
import Derived.Deep.Upon
namespace Go.Proofs.Ytlcpfheocenjfaa
open Go.RowKit Go.Maps
set_option linter.unusedVariables false
set_option linter.unusedSimpArgs false
/-- cells put one behind the other. -/
def putAll (cs : Array Value) : Nat → List Value → Array Value
  | _, [] => cs
  | o, v :: r => putAll (cs.setIfInBounds o v) (o + 1) r
theorem putAll_size : ∀ (vs : List Value) (o : Nat) (cs : Array Value), (putAll cs o vs).size = cs.size
  | [], _, _ => rfl
  | v :: r, o, cs => by unfold putAll; rw [putAll_size r]; simp
theorem putAll_take : ∀ (vs : List Value) (o : Nat) (cs : Array Value), o + vs.length ≤ cs.size → (putAll cs o vs).toList.take (o + vs.length) = cs.toList.take o ++ vs
  | [], o, cs, _ => by simp [putAll]
  | v :: r, o, cs, h => by
    simp only [List.length_cons] at h
    have ih := putAll_take r (o + 1) (cs.setIfInBounds o v) (by simp; omega)
    unfold putAll
    simp only [List.length_cons]
    rw [show o + (r.length + 1) = o + 1 + r.length by omega, ih]
    have e : (cs.setIfInBounds o v).toList.take (o + 1) = cs.toList.take o ++ [v] := by
      rw [Array.toList_setIfInBounds]
      apply List.ext_getElem?
      intro j
      rw [List.getElem?_take]
      by_cases hj : j < o
      · rw [if_pos (by omega), List.getElem?_set, if_neg (by omega), List.getElem?_append_left (by simp; omega), List.getElem?_take, if_pos hj]
      · by_cases hjo : j = o
        · subst hjo
          rw [if_pos (by omega), List.getElem?_set, if_pos rfl, if_pos (by simp; omega), List.getElem?_append_right (by simp; omega)]
          simp
          have : min j cs.size = j := by omega
          rw [this, Nat.sub_self]
          rfl
        · rw [if_neg (by omega), List.getElem?_eq_none (by simp; omega)]
    rw [e, List.append_assoc]
    rfl
theorem heap_setCells_at : ∀ (vs : List Value) (o : Nat) (w : World) (b : Nat) (cs : Array Value) (t : TypeId) (z : Nat × Nat), w.heap[b]? = some (.cells cs t z) → (w.setCells b o vs).heap[b]? = some (.cells (putAll cs o vs) t z)
  | [], _, _, _, _, _, _, h => h
  | v :: r, o, w, b, cs, t, z, h => heap_setCells_at r (o + 1) _ b _ t z (heap_setCell_at h v)
theorem only_setCells : ∀ (vs : List Value) (o : Nat) (w : World) (b : Nat), Only (fun g => g = b) w (w.setCells b o vs)
  | [], _, w, _ => Only.refl _ w
  | v :: r, o, w, b => ((Only.refl (fun g => g = b) w).setCell (p := ⟨b, o, none⟩) rfl v).trans (only_setCells r (o + 1) _ b)
theorem info5 : (Try.prog.info? 5).map (fun i => (i.zero, i.size, i.bytes)) = some (some (.int .u8 0), 1, 1) := by kernel_rfl
/-- a string's bytes behind a row of bytes of one's own. -/
theorem run_append_str (w : World) (ty : TypeId) (base : Nat) (v : Value) (n : Nat) (xs : List Value) (s : ByteArray) (hown : w.ownsRow base 5 1 v n xs) (hs : 0 < s.size) (hn : n + s.size ≤ 1000000) (hbase : base ≤ w.heap.size) :
    ∃ g cap w', (Builtin.append_ #[22, 9] ty #[v, .string s]).run Try.prog w = .ok (.slice (some ⟨g, 0, none⟩) (n + s.size) cap) w' ∧ w'.ownsRow base 5 1 (.slice (some ⟨g, 0, none⟩) (n + s.size) cap) (n + s.size) (xs ++ byteCells s) ∧ Only (fun b => base ≤ b) w w' := by
  obtain ⟨i, hi, hz, hsz, hby⟩ := info_parts info5
  have hsrc : Src Try.prog i.size 9 (.string s) s.size (byteCells s) w := by rw [hsz]; exact Src.ofString w Try.underlying9 s
  have hbl := byteCells_length s
  have hxl : xs.length = n := by have := hown.1; omega
  have hgrow : ∀ (ba : Option Addr) (old : Nat), old < n + s.size → (Builtin.firstCells i.size n (.slice ba n old)).run Try.prog w.drew = .ok xs.toArray w.drew → ∃ g cap w', (Builtin.append_ #[22, 9] ty #[.slice ba n old, .string s]).run Try.prog w = .ok (.slice (some ⟨g, 0, none⟩) (n + s.size) cap) w' ∧ w'.ownsRow base 5 1 (.slice (some ⟨g, 0, none⟩) (n + s.size) cap) (n + s.size) (xs ++ byteCells s) ∧ Only (fun b => base ≤ b) w w' := by
    intro ba old ho hold
    have hr := run_append_grow_src (P := Try.prog) w 22 9 ty 5 i (.int .u8 0) Try.underlying22 hi hz ba n old xs hold (.string s) s.size (byteCells s) hsrc (by omega) (by omega) (by rw [hby]; exact growslice_fits (by omega) (by omega))
    have hge := grownCap_ge w (n + s.size) old 5
    have hcm : grownCap w (n + s.size) old 5 ≤ maxLen := grownCap_le_maxLen w (n + s.size) old 5 (by unfold maxLen; omega)
    refine ⟨_, _, _, hr, ⟨by rw [List.length_append, hxl, hbl, Nat.mul_one], Or.inr ⟨w.heap.size, _, _, rfl, hbase, heap_alloc_new w.drew _, hge, hcm, ?_, ?_⟩⟩, ((Only.refl _ w).drew).alloc _⟩
    · simp only [Array.size_append, List.size_toArray, size_zeroCells, List.length_append, hxl, hbl]
      show n + s.size + (_ - (n + s.size)) * 1 = _
      omega
    · simp only [Array.toList_append, Nat.mul_one]
      rw [List.take_append_of_le_length (by simp; omega)]
      exact List.take_of_length_le (by simp; omega)
  rcases hown.2 with ⟨rfl, rfl⟩ | ⟨g, cap, cur, rfl, hbg, hg, hnc, hcm, hcs, htake⟩
  · have hx : xs = [] := List.eq_nil_of_length_eq_zero hxl
    subst hx
    exact hgrow none 0 (by omega) (by simp [Builtin.firstCells])
  · by_cases hroom : n + s.size ≤ cap
    · have hcell : ∀ j, j < (byteCells s).length → (w.cell? ⟨g, 0 + n * i.size + j, none⟩).isSome = true := fun j hj => by
        rw [cell_blk hg, hsz, Array.getElem?_eq_getElem (by omega)]
        rfl
      have hr := run_append_room_src (P := Try.prog) w 22 9 ty 5 i Try.underlying22 hi g 0 n cap (.string s) s.size (byteCells s) hsrc hroom hcell (fun j _ => fz_blk hg _)
      refine ⟨_, _, _, hr, ⟨by rw [List.length_append, hxl, hbl, Nat.mul_one], Or.inr ⟨g, cap, _, rfl, hbg, heap_setCells_at _ _ _ _ _ _ _ hg, hroom, hcm, by rw [putAll_size]; exact hcs, ?_⟩⟩, (only_setCells _ _ _ _).mono (fun b hb => by rw [hb]; exact hbg)⟩
      have ht := putAll_take (byteCells s) (0 + n * i.size) cur (by rw [hbl, hsz]; omega)
      rw [hsz, hbl] at ht
      rw [hsz, show (n + s.size) * 1 = 0 + n * 1 + s.size by omega, ht, show 0 + n * 1 = n * 1 by omega, htake]
    · refine hgrow (some ⟨g, 0, none⟩) cap (by omega) ?_
      have hol : ∀ j u, xs[j]? = some u → w.drew.cell? ((⟨g, 0, none⟩ : Addr).add j) = some u := hown.cells (g := g) rfl
      exact run_firstCells_some w.drew i.size n ⟨g, 0, none⟩ n cap xs (by rw [hsz]; omega) hol
theorem step_str {ops : Array Oper} {o : Oper} {a : Act} {w : World} {K : Act → World → Prop} {Q : Exit → Act → World → Prop} {E : Prop} (hgd : o.guard = none) (s x : Operand)
    (ho : o.op = .call { callee := .builtin .append, args := #[s, x], argTypes := #[22, 9] }) (base : Nat) (v : Value) (n : Nat) (xs : List Value) (str : ByteArray) (hs : a.eval s = v) (hown : w.ownsRow base 5 1 v n xs) (hx : a.eval x = .string str) (h0 : 0 < str.size) (hn : n + str.size ≤ 1000000) (hbase : base ≤ w.heap.size)
    (h : ∀ g cap w', w'.ownsRow base 5 1 (.slice (some ⟨g, 0, none⟩) (n + str.size) cap) (n + str.size) (xs ++ byteCells str) → Only (fun b => base ≤ b) w w' → K (a.put o.dst (.slice (some ⟨g, 0, none⟩) (n + str.size) cap)) w') :
    if Region.wanted o (yielded ops a.tmps) = true then Oper.wp Try.prog o a w K Q else E := by
  have hw : Region.wanted o (yielded ops a.tmps) = true := by simp [Region.wanted, hgd]
  rw [if_pos hw]
  obtain ⟨g, cap, w', hr, h2, h3⟩ := run_append_str w o.type base v n xs str hown h0 hn hbase
  unfold Oper.wp execOp
  simp only [ho, resolve, invoke, builtin, Sem.run_bind, Sem.run_pure, Result.andThen_ok, List.map_toArray, List.map_cons, List.map_nil, hs, hx, hr]
  exact h g cap w' h2 h3
def siP (w : World) (e : Ending) (w' : World) : Prop := ∃ g, e = .returned (.slice (some ⟨g, 0, none⟩) 14 14) ∧ (∀ k, k < 14 → ∃ s : ByteArray, w'.cell? ⟨g, k, none⟩ = some (.string s) ∧ 0 < s.size ∧ s.size ≤ 4) ∧ Only (fun _ => False) w w'
set_option maxRecDepth 100000 in
set_option maxHeartbeats 4000000 in
theorem signs_any (w : World) : Calls Try.prog 39 #[] w (siP w) := by
  go_enter Try.func39, Try.ntmps39
  go_wp2_with fail
  go_ret
  refine ⟨_, rfl, fun k hk => ?_, (Only.refl _ _).alloc _⟩
  rw [cell_blk (heap_alloc_new w _)]
  match k, hk with
  | 0, _ => exact ⟨_, rfl, by decide, by decide⟩
  | 1, _ => exact ⟨_, rfl, by decide, by decide⟩
  | 2, _ => exact ⟨_, rfl, by decide, by decide⟩
  | 3, _ => exact ⟨_, rfl, by decide, by decide⟩
  | 4, _ => exact ⟨_, rfl, by decide, by decide⟩
  | 5, _ => exact ⟨_, rfl, by decide, by decide⟩
  | 6, _ => exact ⟨_, rfl, by decide, by decide⟩
  | 7, _ => exact ⟨_, rfl, by decide, by decide⟩
  | 8, _ => exact ⟨_, rfl, by decide, by decide⟩
  | 9, _ => exact ⟨_, rfl, by decide, by decide⟩
  | 10, _ => exact ⟨_, rfl, by decide, by decide⟩
  | 11, _ => exact ⟨_, rfl, by decide, by decide⟩
  | 12, _ => exact ⟨_, rfl, by decide, by decide⟩
  | 13, _ => exact ⟨_, rfl, by decide, by decide⟩
theorem byteCells_u8 (s : ByteArray) : ∃ D : List Nat, byteCells s = u8s D ∧ D.length = s.size ∧ ∀ x ∈ D, x < 256 := by
  refine ⟨s.data.toList.map (fun b => b.toNat), ?_, ?_, fun x hx => ?_⟩
  · unfold byteCells u8s
    rw [List.map_map]
    rfl
  · rw [List.length_map, Array.length_toList]
    rfl
  · obtain ⟨b, _, rfl⟩ := List.mem_map.1 hx
    exact UInt8.toNat_lt b
theorem u8s_append (L M : List Nat) : u8s (L ++ M) = u8s L ++ u8s M := by simp [u8s]
def woP (n : Nat) (w : World) (e : Ending) (w' : World) : Prop := ∃ (D : List Nat) (a : Option Addr) (c : Nat), e = .returned (.slice a D.length c) ∧ w'.ownsRow w.heap.size 5 1 (.slice a D.length c) D.length (u8s D) ∧ (∀ x ∈ D, x < 256) ∧ D.length ≤ 4 * n ∧ Only (fun _ => False) w w'
set_option maxRecDepth 100000 in
set_option maxHeartbeats 4000000 in
theorem words_any (L : List Nat) (a0 : Option Addr) (c0 : Nat) (w : World) (hV : Vw w a0 (u8s L)) (hB : ∀ x ∈ L, x < 256) (hn : L.length ≤ 500) : Calls Try.prog 16 #[.slice a0 L.length c0] w (woP L.length w) := by
  have HV : Hid (Vw w a0 (u8s L)) := hV
  have HB : Hid (∀ x ∈ L, x < 256) := hB
  obtain ⟨n, hn'⟩ : ∃ n, n = L.length := ⟨_, rfl⟩
  have HN : Hid (n = L.length) := hn'
  rw [← hn'] at hn ⊢
  clear hV hB hn'
  go_enter Try.func16, Try.ntmps16
  go_wp2_with fail
  go_loopg [3, 4] n (fun gh v3 v4 wr => ∃ (i m : Nat) (D : List Nat) (a : Option Addr) (c : Nat) (W : World), W = wr ∧ gh = n - i ∧ i ≤ n ∧ v3 = .slice a m c ∧ v4 = .int .i64 (i : Int) ∧ m = D.length ∧ m ≤ 4 * i ∧ (∀ x ∈ D, x < 256) ∧ W.ownsRow w.heap.size 5 1 (.slice a m c) m (u8s D) ∧ Only (fun b => w.heap.size ≤ b) w W)
  case atStart => exact ⟨0, 0, [], none, 0, _, rfl, rfl, Nat.zero_le _, rfl, rfl, rfl, Nat.le_refl _, fun _ h => absurd h (List.not_mem_nil), ⟨rfl, Or.inl ⟨rfl, rfl⟩⟩, Only.refl _ _⟩
  case round =>
    obtain ⟨i, m, D, a, c, W, hW, rfl, hi, rfl, rfl, hmD, hm4, hD, hown, hoW⟩ := hrel
    subst hW
    have HG : Hid (W.ownsRow w.heap.size 5 1 (.slice a m c) m (u8s D) ∧ Only (fun b => w.heap.size ≤ b) w W ∧ m = D.length ∧ (∀ x ∈ D, x < 256)) := ⟨hown, hoW, hmD, hD⟩
    have hsz := hoW.size
    clear hown hoW hmD hD
    by_cases hlt : i < n
    · have t1 : (i : Int) < (n : Int) := by omega
      obtain ⟨x, hx⟩ : ∃ x, L[i]? = some x := ⟨_, List.getElem?_eq_getElem (by rw [← HN.out]; omega)⟩
      obtain ⟨b0, off, e0, hb0, hc⟩ := HV.out.cells (by rw [u8s_len, ← HN.out]; omega)
      subst e0
      have c1 := keepS HG.out.2.1 (hc i _ (u8s_at hx)) (by omega)
      have hx8 : x < 256 := HB.out x (List.mem_of_getElem? hx)
      obtain ⟨r, hr⟩ : ∃ r, r = x % 14 := ⟨_, rfl⟩
      have p1 : IntKind.i64.wrap (x : Int) = (x : Int) := by rw [IntKind.wrap_i64]; omega
      have p2 : (x : Int).tmod 14 = (r : Int) := by rw [Int.tmod_eq_emod_of_nonneg (by omega)]; omega
      have p3 : IntKind.i64.wrap (r : Int) = (r : Int) := by rw [IntKind.wrap_i64]; omega
      have p4 : (r : Int) < 14 := by omega
      have HR : Hid (r < 14) := (by omega : r < 14)
      have HC : Hid (∀ W', Only (fun b => w.heap.size ≤ b) W W' → W'.cell? ⟨b0, off + i, none⟩ = some (.int .u8 (x : Int))) := fun W' ho => keepS ho c1 (by omega)
      clear hx hc hr
      go_wp2_with fail
      refine wp_region_held_drew (S := (fun W' => W'.cell? ⟨b0, off + i, none⟩ = some (.int .u8 (x : Int)))) (by kernel_rfl) (HC.out _ (Only.refl _ _).drew) (fun hHeld => ?_)
      refine wpAnyH_take (i := 0) (oi := { dst := some 11, op := _, type := _, pos := _, after := _, guard := _ }) (v := (.slice a m c)) rfl (by kernel_rfl) (by kernel_rfl) (by kernel_rfl) (fun _ _ _ h => h) (Or.inl ⟨by rfl, fun w hSw => by first | (go_simp; done) | go_simp⟩) (by assumption) ?_
      (try simp only [Act.put, List.setIfInBounds_toArray, List.set_cons_zero, List.set_cons_succ])
      refine wpAnyH_take (i := 2) (oi := { dst := some 13, op := _, type := _, pos := _, after := _, guard := _ }) (v := (.slice (some ⟨b0, off, none⟩) n c0)) rfl (by kernel_rfl) (by kernel_rfl) (by kernel_rfl) (fun _ _ _ h => h) (Or.inl ⟨by rfl, fun w hSw => by first | (go_simp; done) | go_simp⟩) (by assumption) ?_
      (try simp only [Act.put, List.setIfInBounds_toArray, List.set_cons_zero, List.set_cons_succ])
      refine wpAnyH_take (i := 3) (oi := { dst := some 14, op := _, type := _, pos := _, after := _, guard := _ }) (v := (.int .i64 (i : Int))) rfl (by kernel_rfl) (by kernel_rfl) (by kernel_rfl) (fun _ _ _ h => h) (Or.inl ⟨by rfl, fun w hSw => by first | (go_simp; done) | go_simp⟩) (by assumption) ?_
      (try simp only [Act.put, List.setIfInBounds_toArray, List.set_cons_zero, List.set_cons_succ])
      refine wpAnyH_take (i := 4) (oi := { dst := some 15, op := _, type := _, pos := _, after := _, guard := _ }) (v := (.pointer (some ⟨b0, off + i, none⟩))) rfl (by kernel_rfl) (by kernel_rfl) (by kernel_rfl) (fun _ _ _ h => h) (Or.inl ⟨by rfl, fun w hSw => by first | (go_simp; done) | go_simp⟩) (by assumption) ?_
      (try simp only [Act.put, List.setIfInBounds_toArray, List.set_cons_zero, List.set_cons_succ])
      refine wpAnyH_take (i := 5) (oi := { dst := some 16, op := _, type := _, pos := _, after := _, guard := _ }) (v := (.int .u8 (x : Int))) rfl (by kernel_rfl) (by kernel_rfl) (by kernel_rfl) (fun _ _ _ h => h) (Or.inl ⟨by rfl, fun w hSw => by first | (go_simp; done) | go_simp⟩) (by assumption) ?_
      (try simp only [Act.put, List.setIfInBounds_toArray, List.set_cons_zero, List.set_cons_succ])
      refine wpAnyH_take (i := 6) (oi := { dst := some 17, op := _, type := _, pos := _, after := _, guard := _ }) (v := (.int .i64 (x : Int))) rfl (by kernel_rfl) (by kernel_rfl) (by kernel_rfl) (fun _ _ _ h => h) (Or.inl ⟨by rfl, fun w hSw => by first | (go_simp; done) | go_simp⟩) (by assumption) ?_
      (try simp only [Act.put, List.setIfInBounds_toArray, List.set_cons_zero, List.set_cons_succ])
      refine wpAnyH_take (i := 7) (oi := { dst := some 18, op := _, type := _, pos := _, after := _, guard := _ }) (v := (.int .i64 (r : Int))) rfl (by kernel_rfl) (by kernel_rfl) (by kernel_rfl) (fun _ _ _ h => h) (Or.inl ⟨by rfl, fun w hSw => by first | (go_simp; done) | go_simp⟩) (by assumption) ?_
      (try simp only [Act.put, List.setIfInBounds_toArray, List.set_cons_zero, List.set_cons_succ])
      refine wpAnyH_ready (rs := [1]) (by kernel_rfl) (by simp) ?_
      refine AllReadyH.cons rfl (fun K hK => ?_) AllReadyH.nil
      rw [if_pos (by rfl)]
      go_simp
      refine Calls.mono (signs_any _) ?_
      rintro e w1 ⟨g, rfl, hg, ho1⟩
      obtain ⟨str, hst, hs0, hs4⟩ := hg r HR.out
      have HO1 : Hid (Only (fun _ => False) W w1) := ((Only.refl _ _).drew).trans ho1
      clear hg ho1
      refine hK.out _ _ (HC.out _ (HO1.out.mono (fun _ h => h.elim))) (fun hHeld => ?_)
      clear hK
      (try simp only [Act.put, List.setIfInBounds_toArray, List.set_cons_zero, List.set_cons_succ])
      refine wpAnyH_take (i := 8) (oi := { dst := some 19, op := _, type := _, pos := _, after := _, guard := _ }) (v := (.pointer (some ⟨g, r, none⟩))) rfl (by kernel_rfl) (by kernel_rfl) (by kernel_rfl) (fun _ _ _ h => h) (Or.inl ⟨by rfl, fun w hSw => by first | (go_simp; done) | go_simp⟩) (by assumption) ?_
      (try simp only [Act.put, List.setIfInBounds_toArray, List.set_cons_zero, List.set_cons_succ])
      refine wpAnyH_ready (rs := [9]) (by kernel_rfl) (by simp) ?_
      refine AllReadyH.cons rfl (fun K hK => ?_) AllReadyH.nil
      rw [if_pos (by rfl)]
      go_simp
      refine hK.out _ _ (HC.out _ (HO1.out.mono (fun _ h => h.elim))) (fun hHeld => ?_)
      clear hK
      (try simp only [Act.put, List.setIfInBounds_toArray, List.set_cons_zero, List.set_cons_succ])
      refine wpAnyH_ready (rs := [10]) (by kernel_rfl) (by simp) ?_
      refine AllReadyH.cons rfl (fun K hK => ?_) AllReadyH.nil
      refine step_str (by rfl) (.tmp 11) (.tmp 20) (by rfl) w.heap.size (.slice a m c) m (u8s D) str (by rfl) (own_only HG.out.1 HO1.out (fun _ _ h => h)) (by rfl) hs0 (by omega) (Nat.le_trans hsz HO1.out.size) ?_
      intro g5 cap5 w5 hown5 ho5
      have H5 : Hid (w5.ownsRow w.heap.size 5 1 (.slice (some ⟨g5, 0, none⟩) (m + str.size) cap5) (m + str.size) (u8s D ++ byteCells str) ∧ Only (fun b => w.heap.size ≤ b) W w5) := ⟨hown5, (HO1.out.mono (fun _ h => h.elim)).trans ho5⟩
      clear hown5 ho5
      refine hK.out _ _ (HC.out _ H5.out.2) (fun hHeld => ?_)
      clear hK
      (try simp only [Act.put, List.setIfInBounds_toArray, List.set_cons_zero, List.set_cons_succ])
      refine wpAnyH_take (i := 11) (oi := { dst := some 3, op := _, type := _, pos := _, after := _, guard := _ }) (v := (.slice (some ⟨g5, 0, none⟩) (m + str.size) cap5)) rfl (by kernel_rfl) (by kernel_rfl) (by kernel_rfl) (fun _ _ _ h => h) (Or.inl ⟨by rfl, fun w hSw => by first | (go_simp; done) | go_simp⟩) (by assumption) ?_
      (try simp only [Act.put, List.setIfInBounds_toArray, List.set_cons_zero, List.set_cons_succ])
      refine wpAnyH_done (by kernel_rfl) ?_ _
      obtain ⟨D2, hD2, hl2, hb2⟩ := byteCells_u8 str
      have HD2 : Hid (byteCells str = u8s D2 ∧ D2.length = str.size ∧ ∀ x ∈ D2, x < 256) := ⟨hD2, hl2, hb2⟩
      clear hD2 hl2 hb2 hst hHeld
      go_wp2_with fail
      go_roundg (n - (i + 1))
      case measure => omega
      case rel =>
        refine ⟨i + 1, m + str.size, D ++ D2, _, _, _, rfl, rfl, by omega, rfl, by go_num, ?_, by omega, ?_, ?_, HG.out.2.1.trans H5.out.2⟩
        · rw [List.length_append, HD2.out.2.1, ← HG.out.2.2.1]
        · intro y hy
          rcases List.mem_append.1 hy with h | h
          · exact HG.out.2.2.2 y h
          · exact HD2.out.2.2 y h
        · rw [u8s_append, ← HD2.out.1]
          exact H5.out.1
    · have t1 : decide ((i : Int) < (n : Int)) = false := decide_eq_false (by omega)
      have hin : i = n := by omega
      subst hin
      go_wp2_with fail
      go_ret
      have hm := HG.out.2.2.1
      refine ⟨D, a, c, by rw [← hm]; rfl, by rw [← hm]; exact HG.out.1, HG.out.2.2.2, by omega, HG.out.2.1.old (fun b hb => Or.inl hb)⟩
end Go.Proofs.Ytlcpfheocenjfaa
