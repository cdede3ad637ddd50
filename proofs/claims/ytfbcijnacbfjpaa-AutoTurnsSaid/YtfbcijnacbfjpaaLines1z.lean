/-
  place, treat, join, set of the rules' reader.
-/
import Derived.Test.YtfbcijnacbfjpaaMchz
namespace Go.Proofs.Ytfbcijnacbfjpaa
open Go.RowKit Go.Maps
set_option linter.unusedVariables false
set_option linter.unusedSimpArgs false

/-- how place ends. -/
def placeP (rb : Nat) (S : ByteArray) (x : Rd) (w : World) (F : Rl.R (Nat × List Rl.Tk)) (e : Ending) (w' : World) : Prop :=
  match F with
  | .error f => e = .panicked (thr f.1 f.2) ∧ Only (· = rb) w w'
  | .ok (k, ts) => e = .returned (.int .i64 (k : Int)) ∧ In w' rb S x ts ∧ Only (· = rb) w w'
theorem own_drewN {w : World} {base e size n : Nat} {v : Value} {xs : List Value} (h : w.ownsRow base e size v n xs) (k : Nat) : (w.drewN k).ownsRow base e size v n xs := h
set_option maxRecDepth 100000 in
set_option maxHeartbeats 2000000 in
theorem place_any (C : List Rl.Str) (rb : Nat) (S : ByteArray) (x : Rd) (ts : List Rl.Tk) (w : World) (h : In w rb S x ts) (hS : S.size ≤ 4096) (hC : w.ownsRow (rb + 1) 9 1 x.vC C.length (strs C)) (hC24 : C.length ≤ 24) :
    Calls Try.prog 79 #[.pointer (some ⟨rb, 0, none⟩)] w (placeP rb S x w (Rl.placeOf C ts)) := by
  have hn := name_any rb S x ts w h hS
  have hlt := h.lt
  obtain ⟨i, _, hs, hi⟩ := h
  unfold Rl.placeOf
  cases hnm : Rl.name ts with
  | error f =>
    rw [hnm] at hn
    have HN : Hid (Calls Try.prog 84 #[.pointer (some ⟨rb, 0, none⟩)] w (nameP rb S x w (.error f))) := hn
    clear hnm hn hs
    simp only
    go_enter Try.func79, Try.ntmps79
    go_wp2_with (go_at_call 84; refine HN.out.mono ?_; rintro e w1 ⟨rfl, ho1⟩)
    exact ⟨rfl, rfl, ho1⟩
  | ok r =>
    obtain ⟨t, ts1⟩ := r
    obtain ⟨_, htl⟩ := name_len hs hnm
    rw [← Lib.size_eq] at htl
    rw [hnm] at hn
    have HN : Hid (Calls Try.prog 84 #[.pointer (some ⟨rb, 0, none⟩)] w (nameP rb S x w (.ok (t, ts1)))) := hn
    have HCo : Hid (w.ownsRow (rb + 1) 9 1 x.vC C.length (strs C)) := hC
    simp only
    clear hnm hn hs hC
    obtain ⟨z, hz⟩ : ∃ z, z = idxI C t.text := ⟨_, rfl⟩
    have Hz : Hid (z = idxI C t.text) := hz
    cases hp : Rl.place C t.text with
    | none =>
      have hz1 : z = -1 := by rw [hz]; unfold idxI; rw [hp]
      have hzn : z < 0 := by omega
      clear hz hz1 hp
      simp only
      go_enter Try.func79, Try.ntmps79
      go_wp2_with (go_at_call 84; refine HN.out.mono ?_; rintro e w1 ⟨rfl, hi1, ho1⟩; have HI1 : Hid (In w1 rb S x ts1) := hi1; obtain ⟨i1, hR1, _, _⟩ := hi1; have d2 := hR1.c2; have hl1 := hR1.lt; clear hR1; have hix : ∀ n, Calls Try.prog 87 #[x.vC, .string (bs t.text)] ((w1.alloc (.cells #[.string (bs t.text), .int .i64 (t.at' : Int)] 124)).drewN n) (fun e w' => e = .returned (.int .i64 z) ∧ w' = ((w1.alloc (.cells #[.string (bs t.text), .int .i64 (t.at' : Int)] 124)).drewN n)) := (fun n => by rw [Hz.out]; exact index_any C t.text (rb + 1) x.vC _ (own_drewN ((own_only HCo.out ho1 (fun g hg => by omega)).alloc _) n) hC24); have Hix : Hid (∀ n, Calls Try.prog 87 #[x.vC, .string (bs t.text)] ((w1.alloc (.cells #[.string (bs t.text), .int .i64 (t.at' : Int)] 124)).drewN n) (fun e w' => e = .returned (.int .i64 z) ∧ w' = ((w1.alloc (.cells #[.string (bs t.text), .int .i64 (t.at' : Int)] 124)).drewN n))) := hix; clear hix)
      go_quiet ((go_at_call 87; exact Calls.quiet_of_same (Hix.out _)))
      go_wp2_with (go_at_call 52; refine (throw_any 22 t.at' _).mono ?_; rintro e w3 ⟨rfl, rfl⟩)
      exact ⟨rfl, rfl, (ho1.alloc _).drewN _⟩
    | some k =>
      have hz1 : z = (k : Int) := by rw [hz]; unfold idxI; rw [hp]
      have hzn : decide (z < 0) = false := decide_eq_false (by omega)
      have Hz1 : Hid (z = (k : Int)) := hz1
      clear hz hz1 hp
      simp only
      go_enter Try.func79, Try.ntmps79
      go_wp2_with (go_at_call 84; refine HN.out.mono ?_; rintro e w1 ⟨rfl, hi1, ho1⟩; have HI1 : Hid (In w1 rb S x ts1) := hi1; obtain ⟨i1, hR1, _, _⟩ := hi1; have d2 := hR1.c2; have hl1 := hR1.lt; clear hR1; have hix : ∀ n, Calls Try.prog 87 #[x.vC, .string (bs t.text)] ((w1.alloc (.cells #[.string (bs t.text), .int .i64 (t.at' : Int)] 124)).drewN n) (fun e w' => e = .returned (.int .i64 z) ∧ w' = ((w1.alloc (.cells #[.string (bs t.text), .int .i64 (t.at' : Int)] 124)).drewN n)) := (fun n => by rw [Hz.out]; exact index_any C t.text (rb + 1) x.vC _ (own_drewN ((own_only HCo.out ho1 (fun g hg => by omega)).alloc _) n) hC24); have Hix : Hid (∀ n, Calls Try.prog 87 #[x.vC, .string (bs t.text)] ((w1.alloc (.cells #[.string (bs t.text), .int .i64 (t.at' : Int)] 124)).drewN n) (fun e w' => e = .returned (.int .i64 z) ∧ w' = ((w1.alloc (.cells #[.string (bs t.text), .int .i64 (t.at' : Int)] 124)).drewN n))) := hix; clear hix)
      go_quiet ((go_at_call 87; exact Calls.quiet_of_same (Hix.out _)))
      go_wp2_with fail
      go_ret
      exact ⟨by rw [← Hz1.out]; rfl, (HI1.out.alloc _).drewN _, (ho1.alloc _).drewN _⟩

theorem place_lt {C : List Rl.Str} {ts ts' : List Rl.Tk} {k : Nat} (h : Rl.placeOf C ts = .ok (k, ts')) : k < C.length := by
  unfold Rl.placeOf at h
  split at h
  · cases h
  · split at h
    · cases h
    · rename_i hp
      cases h
      unfold Rl.place at hp
      split at hp
      · rename_i hm
        cases hp
        exact List.idxOf_lt_length_iff.2 hm
      · cases hp
theorem Rdr.set3 {w : World} {rb : Nat} {S : ByteArray} {i : Int} {x : Rd} (h : Rdr w rb S i x) (v : Int) : Rdr (w.setCell ⟨rb, 3, none⟩ (.int .u32 v)) rb S i { x with j := v } := heap_setCell_at h _
theorem Rdr.set4 {w : World} {rb : Nat} {S : ByteArray} {i : Int} {x : Rd} (h : Rdr w rb S i x) (v : Int) : Rdr (w.setCell ⟨rb, 4, none⟩ (.int .u32 v)) rb S i { x with a := v } := heap_setCell_at h _

set_option maxRecDepth 100000 in
set_option maxHeartbeats 4000000 in
theorem join_any (rb : Nat) (S : ByteArray) (x : Rd) (s : Rl.St) (p : Value) (ts : List Rl.Tk) (w : World) (h : In w rb S x ts) (hS : S.size ≤ 4096) (hT : Stt w rb x s) (tx : Rl.Str) (ti : Int) (hp : p = .agg #[.string (bs tx), .int .i64 ti]) :
    Calls Try.prog 62 #[.pointer (some ⟨rb, 0, none⟩), p] w (lineP rb S x.mb w (Rl.join' ts s)) := by
  subst hp
  have hlt := h.lt
  have HI : Hid (In w rb S x ts) := h
  have HS : Hid (Stt w rb x s) := hT
  have hmb : x.mb ≠ rb := by have := hT.mb; omega
  obtain ⟨i, hR, _, _⟩ := h
  have c3 := hR.c3
  have f3 := hR.fz 3
  obtain ⟨F, hF⟩ : ∃ F, F = Rl.join' ts s := ⟨_, rfl⟩
  have HF : Hid (F = Rl.join' ts s) := hF
  rw [← hF]
  clear hR hT hF
  cases hn1 : Rl.names s.env ts 0 with
  | error f =>
    have T1 : Hid (Rl.names s.env ts 0 = .error f) := hn1
    have HE : Hid (F = .error f) := (by rw [HF.out]; unfold Rl.join'; simp only [hn1] : F = .error f)
    clear hn1
    go_enter Try.func62, Try.ntmps62
    go_wp2_with fail
    have c3' : (w.alloc (.cells #[.string (bs tx), .int .i64 ti] 124)).drew.cell? ⟨rb, 3, none⟩ = some (.int .u32 x.j) := (World.cell?_of_block (a := ⟨rb, 3, none⟩) (Below.heap_alloc w _ _ hlt)).trans c3
    refine wp_region_held_drew (S := fun w' => w'.cell? ⟨rb, 3, none⟩ = some (.int .u32 x.j)) (by kernel_rfl) c3' (fun hHeld => ?_)
    refine wpAnyH_take (i := 0) (v := Value.pointer (some ⟨rb, 0, none⟩)) rfl (by kernel_rfl) (by kernel_rfl) (by kernel_rfl) (fun _ _ _ h => h) (Or.inl ⟨by rfl, fun w hSw => by first | (go_simp; done) | go_simp⟩) (by assumption) ?_
    simp only [Act.put, List.setIfInBounds_toArray, List.set_cons_zero, List.set_cons_succ]
    refine wpAnyH_take (i := 1) (v := Value.pointer (some ⟨rb, 0, none⟩)) rfl (by kernel_rfl) (by kernel_rfl) (by kernel_rfl) (fun _ _ _ h => h) (Or.inl ⟨by rfl, fun w hSw => by first | (go_simp; done) | go_simp⟩) (by assumption) ?_
    simp only [Act.put, List.setIfInBounds_toArray, List.set_cons_zero, List.set_cons_succ]
    refine wpAnyH_take (i := 2) (v := Value.pointer (some ⟨rb, 2, none⟩)) rfl (by kernel_rfl) (by kernel_rfl) (by kernel_rfl) (fun _ _ _ h => h) (Or.inl ⟨by rfl, fun w hSw => by first | (go_simp; done) | go_simp⟩) (by assumption) ?_
    simp only [Act.put, List.setIfInBounds_toArray, List.set_cons_zero, List.set_cons_succ]
    refine wpAnyH_take (i := 3) (v := Value.pointer (some ⟨rb, 3, none⟩)) rfl (by kernel_rfl) (by kernel_rfl) (by kernel_rfl) (fun _ _ _ h => h) (Or.inl ⟨by rfl, fun w hSw => by first | (go_simp; done) | go_simp⟩) (by assumption) ?_
    simp only [Act.put, List.setIfInBounds_toArray, List.set_cons_zero, List.set_cons_succ]
    refine wpAnyH_take (i := 4) (v := Value.int .u32 x.j) rfl (by kernel_rfl) (by kernel_rfl) (by kernel_rfl) (fun _ _ _ h => h) (Or.inl ⟨by rfl, fun w hSw => by first | (go_simp; done) | go_simp⟩) (by assumption) ?_
    simp only [Act.put, List.setIfInBounds_toArray, List.set_cons_zero, List.set_cons_succ]
    refine wpAnyH_take (i := 5) (v := Value.pointer (some ⟨rb, 0, none⟩)) rfl (by kernel_rfl) (by kernel_rfl) (by kernel_rfl) (fun _ _ _ h => h) (Or.inl ⟨by rfl, fun w hSw => by first | (go_simp; done) | go_simp⟩) (by assumption) ?_
    simp only [Act.put, List.setIfInBounds_toArray, List.set_cons_zero, List.set_cons_succ]
    refine wpAnyH_ready (rs := [6]) (by kernel_rfl) (by simp) ?_
    refine AllReadyH.cons rfl (fun K hK => ?_) AllReadyH.nil
    rw [if_pos (by rfl)]
    go_simp
    have hc := names_any s.env rb S x ts _ ((HI.out.alloc (.cells #[.string (bs tx), .int .i64 ti] 124)).drew) hS ((HS.out.mp.alloc _).drewN 1) hmb
    rw [T1.out] at hc
    refine hc.mono ?_
    clear hc
    rintro e w1 ⟨rfl, ho1⟩
    refine ⟨rfl, ?_⟩
    rw [HE.out]
    exact ⟨rfl, (((Only.refl (· = rb) w).alloc _).drew.trans ho1).fr HI.out.cl _⟩
  | ok r =>
    obtain ⟨b, ts1⟩ := r
    have T1 : Hid (Rl.names s.env ts 0 = .ok (b, ts1)) := hn1
    clear hn1
    have HX1 : Hid (∀ (W : World), In W rb S x ts1 → Stt W rb x s → In (W.setCell ⟨rb, 3, none⟩ (.int .u32 (Rl.bor x.j b))) rb S { x with j := Rl.bor x.j b } ts1 ∧ Stt (W.setCell ⟨rb, 3, none⟩ (.int .u32 (Rl.bor x.j b))) rb { x with j := Rl.bor x.j b } { s with join := Rl.bor s.join b }) := (fun W hi ht => by
      have ht' := ht.only ((Only.refl (· = rb) W).setCell (p := ⟨rb, 3, none⟩) rfl (.int .u32 (Rl.bor x.j b)))
      obtain ⟨i, h1, h2⟩ := hi
      exact ⟨⟨i, h1.set3 _, h2⟩, ⟨ht'.cls, ht'.trt, ht'.lst, ht'.mp, by rw [ht.jn], ht'.af, ht'.pl, ht'.op, ht'.mb, ht'.c24, ht'.l24, ht'.p200⟩⟩ : ∀ (W : World), In W rb S x ts1 → Stt W rb x s → In (W.setCell ⟨rb, 3, none⟩ (.int .u32 (Rl.bor x.j b))) rb S { x with j := Rl.bor x.j b } ts1 ∧ Stt (W.setCell ⟨rb, 3, none⟩ (.int .u32 (Rl.bor x.j b))) rb { x with j := Rl.bor x.j b } { s with join := Rl.bor s.join b })
    go_enter Try.func62, Try.ntmps62
    go_wp2_with fail
    go_cut [] from 4 to 14 (fun wr => ∃ W, W = wr ∧ In W rb S { x with j := Rl.bor x.j b } ts1 ∧ Stt W rb { x with j := Rl.bor x.j b } { s with join := Rl.bor s.join b } ∧ Only (· = rb) w W)
    case first =>
      go_region_with (first | (go_at_call 78; have hc := names_any s.env rb S x ts _ ((HI.out.alloc (.cells #[.string (bs tx), .int .i64 ti] 124)).drew) hS ((HS.out.mp.alloc _).drewN 1) hmb; rw [T1.out] at hc; refine hc.mono ?_; clear hc; rintro e w1 ⟨rfl, hI1, ho1⟩; have HI1 : Hid (In w1 rb S x ts1) := hI1; obtain ⟨i1, hR1, _, _⟩ := hI1; have d3 := hR1.c3; have g3 := hR1.fz 3; clear hR1; have HO1 : Hid (Only (· = rb) w w1) := (((Only.refl (· = rb) w).alloc _).drew.trans ho1); clear ho1))
      all_goals
        go_wp2_with fail
        go_meet
        case rel =>
          obtain ⟨h1, h2⟩ := HX1.out w1 HI1.out (HS.out.only HO1.out)
          exact ⟨_, rfl, h1, h2, HO1.out.setCell (p := ⟨rb, 3, none⟩) rfl _⟩
    case rest =>
      obtain ⟨W, hW, hI2, hS2, hO2⟩ := hcut
      obtain ⟨y, hy⟩ : ∃ y : Rd, y = { x with j := Rl.bor x.j b } := ⟨_, rfl⟩
      obtain ⟨s1, hs1⟩ : ∃ s1 : Rl.St, s1 = { s with join := Rl.bor s.join b } := ⟨_, rfl⟩
      have HY : Hid (y.mb = x.mb ∧ y.a = x.a) := (by rw [hy]; exact ⟨rfl, rfl⟩ : y.mb = x.mb ∧ y.a = x.a)
      have HS1 : Hid (s1 = { s with join := Rl.bor s.join b }) := hs1
      have HI2 : Hid (In W rb S y ts1) := by rw [hy]; exact hI2
      have HS2 : Hid (Stt W rb y s1) := by rw [hy, hs1]; exact hS2
      have HO2 : Hid (Only (· = rb) w W) := hO2
      rw [← hW]
      clear hy hs1 hI2 hS2 hO2 hW HX1 c3 f3
      have hmy : y.mb ≠ rb := by rw [HY.out.1]; exact hmb
      have henv : Hid (s1.env = s.env) := (by rw [HS1.out] : s1.env = s.env)
      cases hw : Rl.want 47 ts1 with
      | error f =>
        have T2 : Hid (Rl.want 47 ts1 = .error f) := hw
        have HE : Hid (F = .error f) := (by rw [HF.out]; unfold Rl.join'; simp only [T1.out, hw] : F = .error f)
        clear hw
        go_wp2_with (go_at_call 54; have hc := want_any 47 rb S y ts1 W HI2.out hS; rw [T2.out] at hc; refine hc.mono ?_; clear hc; rintro e w2 ⟨rfl, ho2⟩)
        refine ⟨rfl, ?_⟩
        rw [HE.out]
        exact ⟨rfl, (HO2.out.trans ho2).fr HI.out.cl _⟩
      | ok ts2 =>
        have T2 : Hid (Rl.want 47 ts1 = .ok ts2) := hw
        clear hw
        cases hn2 : Rl.names s.env ts2 0 with
        | error f =>
          have T3 : Hid (Rl.names s.env ts2 0 = .error f) := hn2
          have HE : Hid (F = .error f) := (by rw [HF.out]; unfold Rl.join'; simp only [T1.out, T2.out, hn2] : F = .error f)
          clear hn2
          go_wp2_with (go_at_call 54; have hc := want_any 47 rb S y ts1 W HI2.out hS; rw [T2.out] at hc; refine hc.mono ?_; clear hc; rintro e w2 ⟨rfl, hI3, ho2⟩; have HI3 : Hid (In w2 rb S y ts2) := hI3; obtain ⟨i3, hR3, _, _⟩ := hI3; have d4 := hR3.c4; have hl2 := hR3.lt; clear hR3; have HO3 : Hid (Only (· = rb) w w2) := HO2.out.trans ho2; have HS3 : Hid (Stt w2 rb y s1) := HS2.out.only ho2)
          have d4' : w2.drew.cell? ⟨rb, 4, none⟩ = some (.int .u32 y.a) := d4
          refine wp_region_held_drew (S := fun w' => w'.cell? ⟨rb, 4, none⟩ = some (.int .u32 y.a)) (by kernel_rfl) d4' (fun hHeld => ?_)
          refine wpAnyH_take (i := 0) (v := Value.pointer (some ⟨rb, 0, none⟩)) rfl (by kernel_rfl) (by kernel_rfl) (by kernel_rfl) (fun _ _ _ h => h) (Or.inl ⟨by rfl, fun w hSw => by first | (go_simp; done) | go_simp⟩) (by assumption) ?_
          simp only [Act.put, List.setIfInBounds_toArray, List.set_cons_zero, List.set_cons_succ]
          refine wpAnyH_take (i := 1) (v := Value.pointer (some ⟨rb, 0, none⟩)) rfl (by kernel_rfl) (by kernel_rfl) (by kernel_rfl) (fun _ _ _ h => h) (Or.inl ⟨by rfl, fun w hSw => by first | (go_simp; done) | go_simp⟩) (by assumption) ?_
          simp only [Act.put, List.setIfInBounds_toArray, List.set_cons_zero, List.set_cons_succ]
          refine wpAnyH_take (i := 2) (v := Value.pointer (some ⟨rb, 2, none⟩)) rfl (by kernel_rfl) (by kernel_rfl) (by kernel_rfl) (fun _ _ _ h => h) (Or.inl ⟨by rfl, fun w hSw => by first | (go_simp; done) | go_simp⟩) (by assumption) ?_
          simp only [Act.put, List.setIfInBounds_toArray, List.set_cons_zero, List.set_cons_succ]
          refine wpAnyH_take (i := 3) (v := Value.pointer (some ⟨rb, 4, none⟩)) rfl (by kernel_rfl) (by kernel_rfl) (by kernel_rfl) (fun _ _ _ h => h) (Or.inl ⟨by rfl, fun w hSw => by first | (go_simp; done) | go_simp⟩) (by assumption) ?_
          simp only [Act.put, List.setIfInBounds_toArray, List.set_cons_zero, List.set_cons_succ]
          refine wpAnyH_take (i := 4) (v := Value.int .u32 y.a) rfl (by kernel_rfl) (by kernel_rfl) (by kernel_rfl) (fun _ _ _ h => h) (Or.inl ⟨by rfl, fun w hSw => by first | (go_simp; done) | go_simp⟩) (by assumption) ?_
          simp only [Act.put, List.setIfInBounds_toArray, List.set_cons_zero, List.set_cons_succ]
          refine wpAnyH_take (i := 5) (v := Value.pointer (some ⟨rb, 0, none⟩)) rfl (by kernel_rfl) (by kernel_rfl) (by kernel_rfl) (fun _ _ _ h => h) (Or.inl ⟨by rfl, fun w hSw => by first | (go_simp; done) | go_simp⟩) (by assumption) ?_
          simp only [Act.put, List.setIfInBounds_toArray, List.set_cons_zero, List.set_cons_succ]
          refine wpAnyH_ready (rs := [6]) (by kernel_rfl) (by simp) ?_
          refine AllReadyH.cons rfl (fun K hK => ?_) AllReadyH.nil
          rw [if_pos (by rfl)]
          go_simp
          have hc := names_any s.env rb S y ts2 _ HI3.out.drew hS (by rw [← henv.out]; exact HS3.out.mp.drewN 1) hmy
          rw [T3.out] at hc
          refine hc.mono ?_
          clear hc
          rintro e w1 ⟨rfl, ho1⟩
          refine ⟨rfl, ?_⟩
          rw [HE.out]
          exact ⟨rfl, (HO3.out.drew.trans ho1).fr HI.out.cl _⟩
        | ok r =>
          obtain ⟨c, ts3⟩ := r
          have T3 : Hid (Rl.names s.env ts2 0 = .ok (c, ts3)) := hn2
          have HE : Hid (F = .ok (ts3, { s with join := Rl.bor s.join b, after := Rl.bor s.after c })) := (by rw [HF.out]; unfold Rl.join'; simp only [T1.out, T2.out, hn2] : F = .ok (ts3, { s with join := Rl.bor s.join b, after := Rl.bor s.after c }))
          clear hn2
          go_wp2_with (go_at_call 54; have hc := want_any 47 rb S y ts1 W HI2.out hS; rw [T2.out] at hc; refine hc.mono ?_; clear hc; rintro e w2 ⟨rfl, hI3, ho2⟩; have HI3 : Hid (In w2 rb S y ts2) := hI3; obtain ⟨i3, hR3, _, _⟩ := hI3; have d4 := hR3.c4; have hl2 := hR3.lt; clear hR3; have HO3 : Hid (Only (· = rb) w w2) := HO2.out.trans ho2; have HS3 : Hid (Stt w2 rb y s1) := HS2.out.only ho2; have HM3 : Hid (Mp w2 y.mb s.env) := (by have := HS3.out.mp; rw [henv.out] at this; exact this))
          go_region_with (first | (go_at_call 78; have hc := names_any s.env rb S y ts2 _ HI3.out.drew hS (HM3.out.drewN 1) hmy; rw [T3.out] at hc; refine hc.mono ?_; clear hc; rintro e w4 ⟨rfl, hI4, ho4⟩; have HI4 : Hid (In w4 rb S y ts3) := hI4; obtain ⟨i4, hR4, _, _⟩ := hI4; have e4 := hR4.c4; have g4 := hR4.fz 4; clear hR4; have HO4 : Hid (Only (· = rb) w w4) := HO3.out.drew.trans ho4; have HS4 : Hid (Stt w4 rb y s1) := HS3.out.only ((Only.refl (· = rb) w2).drew.trans ho4); clear ho4))
          all_goals
            go_wp2_with fail
            go_end0
            rw [HE.out]
            have hst := HS4.out.only ((Only.refl (· = rb) w4).setCell (p := ⟨rb, 4, none⟩) rfl (.int .u32 (Rl.bor y.a c)))
            obtain ⟨i5, h5, h6⟩ := HI4.out
            refine ⟨rfl, { y with a := Rl.bor y.a c }, HY.out.1, ⟨i5, h5.set4 _, h6⟩, ?_, (HO4.out.setCell (p := ⟨rb, 4, none⟩) rfl _).fr HI.out.cl _⟩
            have haf := HS4.out.af
            have hs1' := HS1.out
            exact ⟨by rw [hs1'] at hst; exact hst.cls, by rw [hs1'] at hst; exact hst.trt, by rw [hs1'] at hst; exact hst.lst, by rw [hs1'] at hst; exact hst.mp, by rw [hs1'] at hst; exact hst.jn, by rw [hs1'] at haf; show Rl.bor y.a c = Rl.bor s.after c; rw [haf], by rw [hs1'] at hst; exact hst.pl, hst.op, hst.mb, by rw [hs1'] at hst; exact hst.c24, by rw [hs1'] at hst; exact hst.l24, by rw [hs1'] at hst; exact hst.p200⟩
end Go.Proofs.Ytfbcijnacbfjpaa
