/-
  What (*rules.reader).next returns: the next piece, or a fault thrown.
-/
import Derived.Test.YtfbcijnacbfjpaaMathz
namespace Go.Proofs.Ytfbcijnacbfjpaa
open Go.RowKit
set_option linter.unusedVariables false
set_option linter.unusedSimpArgs false
set_option maxRecDepth 100000 in
set_option maxHeartbeats 2000000 in
theorem next_any (rb : Nat) (S : ByteArray) (i : Nat) (x : Rd) (t : Rl.Tk) (ts : List Rl.Tk) (w : World) (hR : Rdr w rb S i x) (hs : Rl.Strm S.data.toList i (t :: ts)) (hi : i ≤ S.size) (hS : S.size ≤ 4096) :
    Calls Try.prog 51 #[.pointer (some ⟨rb, 0, none⟩)] w fun e w' => e = nextE t ∧ Rdr w' rb S (t.at' : Int) x ∧ Only (· = rb) w w' := by
  have c0 := hR.c0
  have c1 := hR.c1
  have hlt := hR.lt
  have hf1 := hR.fz 1
  have hii : (i : Int) ≤ (S.size : Int) := by omega
  obtain ⟨m, hm⟩ : ∃ m, m = Rl.blk false (S.data.toList.drop i) := ⟨_, rfl⟩
  have hbl : ∀ w, Calls Try.prog 67 #[.string (S.extract i S.size)] w (fun e w' => e = .returned (.int .i64 (m : Int)) ∧ w' = w) := fun w => by
    have := blanks_any (S.extract i S.size) w (by rw [ByteArray.size_extract]; omega)
    rw [Lib.extract_data, List.take_of_length_le (by rw [List.length_drop, ← Lib.size_eq]; omega), ← hm] at this
    exact this
  have hbH : Hid (∀ w, Calls Try.prog 67 #[.string (S.extract i S.size)] w (fun e w' => e = .returned (.int .i64 (m : Int)) ∧ w' = w)) := hbl
  have ht : Hid (t.at' = i + m) := (by rw [Rl.strm_at hs, hm]; rfl : t.at' = i + m)
  have hm2 : i + m ≤ S.size := by have := Rl.nx_le S.data.toList i (by rw [← Lib.size_eq]; omega); rw [← Rl.strm_at hs, ht.out, ← Lib.size_eq] at this; exact this
  clear hm hbl
  obtain ⟨G, hG⟩ : ∃ G, G = w.heap.size := ⟨_, rfl⟩
  have HR : Hid (Rdr w rb S i x) := hR
  have Hs : Hid (Rl.Strm S.data.toList i (t :: ts)) := hs
  clear hR hs
  go_enter Try.func51, Try.ntmps51
  go_wp2_with fail
  go_cut [] from 5 to 21 (fun wr => ∃ W, W = wr ∧ Rdr W rb S (t.at' : Int) x ∧ Only (· = rb) w W ∧ W.heap[G]? = some (.cells #[.string ⟨#[]⟩, .int .i64 0] 124 (0, 0)))
  case first =>
    go_region_with (go_at_call 67; refine (hbH.out _).mono ?_; rintro e w' ⟨rfl, rfl⟩)
    all_goals
      go_wp2_with fail
      go_meet
      case rel =>
        have e1 : IntKind.i64.wrap ((i : Int) + m) = (t.at' : Int) := by rw [IntKind.wrap_i64, ht.out]; omega
        rw [e1, hG]
        refine ⟨_, rfl, ((HR.out.set1 _).alloc _).drew, (((Only.refl (· = rb) w).setCell (p := ⟨rb, 1, none⟩) rfl _).alloc _).drew, ?_⟩
        have := heap_alloc_new (w.setCell ⟨rb, 1, none⟩ (.int .i64 (t.at' : Int))) (.cells #[.string ⟨#[]⟩, .int .i64 0] 124)
        rw [show (w.setCell ⟨rb, 1, none⟩ (.int .i64 (t.at' : Int))).heap.size = w.heap.size by simp [World.setCell]] at this
        exact this
  case rest =>
    obtain ⟨W, hW, hR2, hO2, hG2⟩ := hcut
    have d0 := hR2.c0
    have d1 := hR2.c1
    have hti : (t.at' : Int) ≤ (S.size : Int) := by have := ht.out; omega
    have HR2 : Hid (Rdr W rb S (t.at' : Int) x) := hR2
    have HO2 : Hid (Only (· = rb) w W) := hO2
    obtain ⟨r, hr⟩ : ∃ r, r = S.extract t.at' S.size := ⟨_, rfl⟩
    have hrs : r.size = S.size - t.at' := by rw [hr, ByteArray.size_extract]; omega
    have hrd : Hid (r.data.toList = S.data.toList.drop t.at') := (by rw [hr, Lib.extract_data, List.take_of_length_le (by rw [List.length_drop, ← Lib.size_eq]; omega)] : r.data.toList = S.data.toList.drop t.at')
    have htk : Hid (t.text = r.data.toList.take (Rl.plen r.data.toList) ∧ t.bad = decide (r.data.toList ≠ [] ∧ Rl.plen r.data.toList = 0)) := by
      have h1 := Hs.out.1
      have h2 := Rl.strm_at Hs.out
      rw [hrd.out, h2]
      rw [h1]
      exact ⟨rfl, rfl⟩
    have g0 : W.cell? ⟨G, 0, none⟩ = some (.string ⟨#[]⟩) := (cell_of_row _ _ _ _ _ _ hG2).trans rfl
    have g1 : W.cell? ⟨G, 1, none⟩ = some (.int .i64 0) := (cell_of_row _ _ _ _ _ _ hG2).trans rfl
    have gf0 : W.frozen? ⟨G, 0, none⟩ = false := by simp [World.frozen?, hG2]
    have gf1 : W.frozen? ⟨G, 1, none⟩ = false := by simp [World.frozen?, hG2]
    have HG2 : Hid (W.heap[G]? = some (.cells #[.string ⟨#[]⟩, .int .i64 0] 124 (0, 0))) := hG2
    have Hr : Hid (r = S.extract t.at' S.size) := hr
    rw [← hW, ← hG]
    have HG : Hid (G = w.heap.size) := hG
    have hGr : G ≠ rb := by omega
    have hGw : w.heap.size ≤ G := by omega
    clear hR2 hO2 hG2 c0 c1 hf1 hW hG
    go_wp2_with fail
    go_quiet (fail)
    rw [← hr]
    clear hr
    obtain ⟨n, hn⟩ : ∃ n, n = Rl.nml r.data.toList := ⟨_, rfl⟩
    have hnl : ∀ w, Calls Try.prog 68 #[.string r] w (fun e w' => e = .returned (.int .i64 (n : Int)) ∧ w' = w) := fun w => by rw [hn]; exact nameLen_any r w (by omega)
    have Hn : Hid (n = Rl.nml r.data.toList) := hn
    have Hnl : Hid (∀ w, Calls Try.prog 68 #[.string r] w (fun e w' => e = .returned (.int .i64 (n : Int)) ∧ w' = w)) := hnl
    clear hn hnl
    by_cases h0 : 0 < n
    · have h0' : (0 : Int) < (n : Int) := by omega
      have hle : (n : Int) ≤ (r.size : Int) := by have := Rl.nml_le r.data.toList; rw [← Hn.out, ← Lib.size_eq] at this; omega
      go_wp2_with (go_at_call 68; refine (Hnl.out _).mono ?_; rintro e w' ⟨rfl, rfl⟩)
      go_region
      all_goals go_wp2_with fail
      have hE : nextE t = .returned (.agg #[.string (r.extract 0 n), .int .i64 (t.at' : Int)]) := by
        have hp : Rl.plen r.data.toList = n := by unfold Rl.plen; rw [← Hn.out, if_pos h0]
        have h1 := htk.out
        rw [hp] at h1
        unfold nextE
        rw [if_neg (by rw [h1.2]; simp; omega), h1.1, extract_take]
      rw [hE]
      refine bodyPost_ret (v := .agg #[.string (r.extract 0 n), .int .i64 (t.at' : Int)]) (by simp [results, Try.results51, go_sem, g0, g1]) rfl ?_
      refine ⟨rfl, (((HR2.out.drewN _).setOther (by omega) _).setOther (by omega) _), ((HO2.out.drewN _).setNew (by omega) _).setNew (by omega) _⟩
    · obtain rfl : n = 0 := by omega
      clear h0
      by_cases hre : r.size = 0
      · have hnil0 : r.data.toList = [] := by rw [← List.length_eq_zero_iff, ← Lib.size_eq]; exact hre
        have he : r.toList.isEmpty = true := by rw [Lib.toList_data, hnil0]; rfl
        clear hnil0
        have hle : (0 : Int) ≤ (r.size : Int) := by omega
        have hE : nextE t = .returned (.agg #[.string (r.extract 0 0), .int .i64 (t.at' : Int)]) := by
          have hnil : r.data.toList = [] := by rw [← List.length_eq_zero_iff, ← Lib.size_eq]; exact hre
          have h1 := htk.out
          rw [hnil] at h1
          unfold nextE
          rw [if_neg (by rw [h1.2]; simp), h1.1, extract_take]; rfl
        have HE : Hid (nextE t = .returned (.agg #[.string (r.extract 0 0), .int .i64 (t.at' : Int)])) := hE
        clear hE hre
        go_wp2_with (go_at_call 68; refine (Hnl.out _).mono ?_; rintro e w' ⟨rfl, rfl⟩)
        go_region
        all_goals go_wp2_with fail
        refine bodyPost_ret (v := .agg #[.string (r.extract 0 0), .int .i64 (t.at' : Int)]) (by simp [results, Try.results51, go_sem, g0, g1]) rfl ?_
        exact ⟨HE.out.symm, (((HR2.out.drewN _).setOther (by omega) _).setOther (by omega) _), ((HO2.out.drewN _).setNew (by omega) _).setNew (by omega) _⟩
      · have hlt0 : 0 < r.size := by omega
        have he : r.toList.isEmpty = false := by
          rw [Lib.toList_data]
          cases h : r.data.toList with
          | nil => rw [Lib.size_eq, h] at hlt0; simp at hlt0
          | cons a l => rfl
        have hle : (1 : Int) ≤ (r.size : Int) := by omega
        have hltI : (0 : Int) < (r.size : Int) := by omega
        have hcons : Hid (r.data.toList = r[0] :: r.data.toList.drop 1) := (by have := drop_data hlt0; simpa using this : r.data.toList = r[0] :: r.data.toList.drop 1)
        obtain ⟨q, hq⟩ : ∃ q, q = Lib.indexByte Rl.signs r[0] := ⟨_, rfl⟩
        have hix : ∀ w, Calls Try.prog 69 #[.string ⟨#[40, 41, 91, 93, 94, 124, 42, 43, 63, 46, 59, 47, 61]⟩, .int .u8 (r[0].toNat : Int)] w (fun e w' => e = .returned (.int .i64 q) ∧ w' = w) := fun w => by rw [hq]; exact indexByte_any _ _ w
        have Hix : Hid (∀ w, Calls Try.prog 69 #[.string ⟨#[40, 41, 91, 93, 94, 124, 42, 43, 63, 46, 59, 47, 61]⟩, .int .u8 (r[0].toNat : Int)] w (fun e w' => e = .returned (.int .i64 q) ∧ w' = w)) := hix
        have hhas := indexByte_has Rl.signs r[0]
        rw [← hq] at hhas
        have hpl : Rl.plen r.data.toList = if Rl.signs.contains r[0] = true then 1 else 0 := by
          unfold Rl.plen
          rw [← Hn.out, if_neg (by omega)]
          rw [hcons.out]
        by_cases hc : Rl.signs.contains r[0] = true
        · have hq0 : (0 : Int) ≤ q := hhas.2 hc
          have hE : nextE t = .returned (.agg #[.string (r.extract 0 1), .int .i64 (t.at' : Int)]) := by
            rw [if_pos hc] at hpl
            have h1 := htk.out
            rw [hpl] at h1
            unfold nextE
            rw [if_neg (by rw [h1.2]; simp), h1.1, extract_take]
          have HE : Hid (nextE t = .returned (.agg #[.string (r.extract 0 1), .int .i64 (t.at' : Int)])) := hE
          clear hE hre hq hix hhas hpl hc
          go_wp2_with (first | (go_at_call 68; refine (Hnl.out _).mono ?_; rintro e w' ⟨rfl, rfl⟩) | (go_at_call 69; refine (Hix.out _).mono ?_; rintro e w' ⟨rfl, rfl⟩))
          go_region
          all_goals go_wp2_with fail
          refine bodyPost_ret (v := .agg #[.string (r.extract 0 1), .int .i64 (t.at' : Int)]) (by simp [results, Try.results51, go_sem, g0, g1]) rfl ?_
          exact ⟨HE.out.symm, (((HR2.out.drewN _).setOther (by omega) _).setOther (by omega) _), ((HO2.out.drewN _).setNew (by omega) _).setNew (by omega) _⟩
        · have hq0 : ¬ (0 : Int) ≤ q := fun h => hc (hhas.1 h)
          have hq1 : decide ((0 : Int) ≤ q) = false := decide_eq_false hq0
          have hE : nextE t = .panicked (thr 20 t.at') := by
            rw [if_neg hc] at hpl
            have h1 := htk.out
            rw [hpl, hcons.out] at h1
            unfold nextE
            rw [if_pos (by rw [h1.2]; simp)]
          have HE : Hid (nextE t = .panicked (thr 20 t.at')) := hE
          clear hE hre hq hix hhas hpl hc
          go_wp2_with (first | (go_at_call 68; refine (Hnl.out _).mono ?_; rintro e w' ⟨rfl, rfl⟩) | (go_at_call 69; refine (Hix.out _).mono ?_; rintro e w' ⟨rfl, rfl⟩) | (go_at_call 52; refine (throw_any 20 t.at' _).mono ?_; rintro e w' ⟨rfl, rfl⟩))
          exact ⟨rfl, HE.out.symm, HR2.out.drewN _, HO2.out.drewN _⟩
end Go.Proofs.Ytfbcijnacbfjpaa
