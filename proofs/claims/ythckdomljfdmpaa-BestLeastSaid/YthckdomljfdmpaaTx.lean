/-
  stanzalaw14.Text: a text of clusters, out of a string.
-/
import Derived.Test.YthckdomljfdmpaaPb
import Derived.Laws.IdiomStrings
namespace Go.Proofs.Ythckdomljfdmpaa
open Go.RowKit Go.Maps
set_option linter.unusedVariables false
set_option linter.unusedSimpArgs false
/-- a byte as a bit. -/
def tb1 (c : UInt8) : Bt := if c.toNat = 32 then ⟨1, 1, 0, 1⟩ else ⟨1, 0, 0, 0⟩
def txB (s : ByteArray) : List Bt := s.data.toList.map tb1
theorem txB_len (s : ByteArray) : (txB s).length = s.size := by
  unfold txB
  rw [List.length_map, Array.length_toList]
  rfl
theorem txB_at {s : ByteArray} {k : Nat} (h : k < s.data.size) : (txB s)[k]? = some (tb1 s.data[k]) := by
  unfold txB
  rw [List.getElem?_map, Array.getElem?_toList, Array.getElem?_eq_getElem h]
  rfl
theorem btC_snoc (L : List Bt) (b : Bt) : btC (L ++ [b]) = btC L ++ [.int .u8 (b.cells : Int), .int .u8 (b.kind : Int), .int .u8 (b.len : Int), .int .u8 (b.opp : Int)] := by unfold btC; rw [List.flatMap_append]; rfl
theorem txB_ok (s : ByteArray) : ∀ b ∈ txB s, b.cells < 256 ∧ b.kind < 256 ∧ b.len < 256 ∧ b.opp < 256 := fun b hb => by
  unfold txB at hb
  obtain ⟨c, _, rfl⟩ := List.mem_map.1 hb
  unfold tb1
  split <;> decide
theorem infoBit : (Try.prog.info? 49).map (fun i => (i.zero, i.size, i.bytes)) = some (some (.agg #[.int .u8 0, .int .u8 0, .int .u8 0, .int .u8 0]), 4, 4) := by kernel_rfl
theorem blk22 (W : World) (o1 o2 : Obj) : ((W.alloc o1).alloc o2).heap[W.heap.size + 1]? = some o2 ∧ ((W.alloc o1).alloc o2).heap.size = W.heap.size + 2 := ⟨heap_alloc2_new W _ _, by rw [size_alloc1, size_alloc1]⟩
set_option maxRecDepth 100000 in
set_option maxHeartbeats 4000000 in
theorem text_any (s : ByteArray) (n : Nat) (w : World) (hn : n = s.size) (hs : n ≤ 900) :
    Calls Try.prog 23 #[.string s] w fun e w' => ∃ aC aO cC cO, e = .returned (.agg #[.slice aC n cC, .slice aO (n + 1) cO]) ∧ Pv w' (Pa.cts (txB s) 0) (Pa.ops (txB s) n ++ [2]) n (n + 1) aC aO cC cO ∧ Only (fun _ => False) w w' := by
  obtain ⟨i3, g3, g30, g31, g32⟩ := info_parts infoBit
  have hXs : (w.alloc (.cells #[.slice none 0 0, .slice none 0 0] 31)).heap.size = w.heap.size + 1 := by simp
  have hcv := run_bytes_of_string (P := Try.prog) (w.alloc (.cells #[.slice none 0 0, .slice none 0 0] 31)) 9 78 5 s Try.underlying9 Try.underlying78 Try.underlying5
  obtain ⟨cp, hcp⟩ : ∃ cp, cp = grownCap (w.alloc (.cells #[.slice none 0 0, .slice none 0 0] 31)) s.size 0 5 := ⟨_, rfl⟩
  rw [← hcp] at hcv
  have hcp2 : s.size ≤ cp := by rw [hcp]; exact grownCap_ge _ _ _ _
  obtain ⟨w1, hw1⟩ : ∃ wc, wc = World.alloc (World.drew (w.alloc (.cells #[.slice none 0 0, .slice none 0 0] 31))) (.cells (bytesRow s cp) 5 ((bytesRow s cp).size, (bytesRow s cp).size + 1)) := ⟨_, rfl⟩
  rw [← hw1, hXs] at hcv
  have hbb : w1.heap[w.heap.size + 1]? = some (.cells (bytesRow s cp) 5 ((bytesRow s cp).size, (bytesRow s cp).size + 1)) := by
    rw [hw1, ← hXs]
    exact heap_alloc_new (World.drew (w.alloc (.cells #[.slice none 0 0, .slice none 0 0] 31))) _
  have hbR : w1.heap[w.heap.size]? = some (.cells #[.slice none 0 0, .slice none 0 0] 31 (0, 0)) := by
    rw [hw1]
    exact ((((Only.refl (fun _ => False) (w.alloc (.cells #[.slice none 0 0, .slice none 0 0] 31))).drew).alloc _).block w.heap.size (by simp) (fun h => h)).trans (heap_alloc_new w _)
  have ho1 : Only (fun _ => False) w w1 := by rw [hw1]; exact ((((Only.refl _ _).alloc _).drew).alloc _)
  obtain ⟨R, hR⟩ : ∃ R, R = w.heap.size := ⟨_, rfl⟩
  obtain ⟨S, hS⟩ : ∃ S, S = w.heap.size + 1 := ⟨_, rfl⟩
  have H1 : Hid (w1.heap[S]? = some (.cells (bytesRow s cp) 5 ((bytesRow s cp).size, (bytesRow s cp).size + 1)) ∧ w1.heap[R]? = some (.cells #[.slice none 0 0, .slice none 0 0] 31 (0, 0)) ∧ Only (fun _ => False) w w1 ∧ w.heap.size ≤ R) := ⟨by rw [hS]; exact hbb, by rw [hR]; exact hbR, ho1, by omega⟩
  have lR1 : R < w1.heap.size := (Array.getElem?_eq_some_iff.1 H1.out.2.1).1
  have lS1 : S < w1.heap.size := (Array.getElem?_eq_some_iff.1 H1.out.1).1
  have HCB : Hid (∀ W', Only (fun g => w1.heap.size ≤ g) w1 W' → ∀ k (h : k < s.data.size), W'.cell? ⟨S, k, none⟩ = some (.int .u8 (s.data[k].toNat : Int))) := fun W' ho k h => by
    rw [cell_of_row W' S k _ _ _ ((ho.block S lS1 (by omega)).trans H1.out.1)]
    exact bytesRow_at s cp k h
  have HN : Hid (n = s.size ∧ n = s.data.size) := ⟨hn, hn⟩
  rw [← hn] at hcv hcp2
  rw [← hS] at hcv
  clear hcp hw1 hbb hbR ho1 hn
  go_enter Try.func23, Try.ntmps23
  go_wp2_with fail
  rw [← hR]
  have hSR : R + 1 = S := by omega
  rw [hSR]
  clear hR hS hcv hXs hSR
  go_loopg [3, 10] n (fun gh v3 v10 wr => ∃ (k : Nat) (al : Option Addr) (c : Nat) (W : World), W = wr ∧ gh = n - k ∧ k ≤ n ∧ v3 = .slice al k c ∧ v10 = .int .i64 (k : Int) ∧ W.ownsRow w1.heap.size 49 4 (.slice al k c) k (btC ((txB s).take k)) ∧ Only (fun g => w1.heap.size ≤ g) w1 W)
  case atStart => exact ⟨0, none, 0, _, rfl, rfl, Nat.zero_le _, rfl, rfl, ⟨rfl, Or.inl ⟨rfl, rfl⟩⟩, Only.refl _ _⟩
  case round =>
    obtain ⟨k, al, c, W, hW, rfl, hk, rfl, rfl, hown, hoW⟩ := hrel
    subst hW
    have HG : Hid (W.ownsRow w1.heap.size 49 4 (.slice al k c) k (btC ((txB s).take k)) ∧ Only (fun g => w1.heap.size ≤ g) w1 W ∧ Only (fun _ => False) w W) := ⟨hown, hoW, H1.out.2.2.1.trans (hoW.old (fun b hb => Or.inl hb))⟩
    have hsz := hoW.size
    clear hown hoW
    by_cases hlt : k < n
    · have t1 : (k : Int) < (n : Int) := by omega
      have hkd : k < s.data.size := by rw [← HN.out.2]; exact hlt
      obtain ⟨x, hx⟩ : ∃ x, x = s.data[k].toNat := ⟨_, rfl⟩
      have c0 := HCB.out W HG.out.2.1 k hkd
      rw [← hx] at c0
      have HX : Hid ((txB s)[k]? = some (tb1 s.data[k]) ∧ x = s.data[k].toNat) := ⟨txB_at hkd, hx⟩
      have hx8 : x < 256 := by rw [hx]; exact UInt8.toNat_lt _
      clear hx
      by_cases h32 : x = 32
      · have t2 : ((x : Int) == 32) = true := by rw [beq_iff_eq]; omega
        have HT : Hid ((txB s).take (k + 1) = (txB s).take k ++ [⟨1, 1, 0, 1⟩]) := by rw [take_snoc (HX.out.1)]; unfold tb1; rw [if_pos (by rw [← HX.out.2]; exact h32)]; exact rfl
        have HVA : Hid _ := blk22 W (.cells #[.int .u8 1, .int .u8 1, .int .u8 0, .int .u8 1] 49) (.cells #[.int .u8 1, .int .u8 1, .int .u8 0, .int .u8 1] 49)
        clear h32
        go_wp2_with (at_builtin; (refine wpList_append_lies _ rfl _ _ 22 rfl w1.heap.size 49 i3 (.agg #[.int .u8 0, .int .u8 0, .int .u8 0, .int .u8 0]) 4 4 Try.underlying22 g3 g30 g31 g32 rfl (by decide) (.slice al k c) k (btC ((txB s).take k)) rfl ((HG.out.1.alloc _).alloc _) ⟨W.heap.size + 1, 0, none⟩ 1 1 [.int .u8 1, .int .u8 1, .int .u8 0, .int .u8 1] rfl rfl (World.news_of_block (cs := #[.int .u8 1, .int .u8 1, .int .u8 0, .int .u8 1]) HVA.out.1) (fun u hu => by simp at hu; rcases hu with rfl | rfl | rfl | rfl <;> rfl) (by decide) (by unfold maxLen; omega) (by omega) (by rw [HVA.out.2]; omega) (W.heap.size + 2) HVA.out.2 ?_; intro g5 cap5 w5 hown5 hgrow5 hat5 hlt5; have hoo : Only (fun g => (Value.slice al k c).ownBlock = some g) W w5 := ((((Only.refl (fun g => (Value.slice al k c).ownBlock = some g) W).alloc _)).alloc _).grown hgrow5 (fun k hk => hk); have H5 : Hid (w5.ownsRow w1.heap.size 49 4 (.slice (some ⟨g5, 0, none⟩) (k + 1) cap5) (k + 1) (btC ((txB s).take (k + 1))) ∧ Only (fun g => w1.heap.size ≤ g) w1 w5) := ⟨by rw [HT.out, btC_snoc]; exact hown5, HG.out.2.1.trans (hoo.mono (fun g hg => (own_own HG.out.1 hg).1))⟩; clear hown5 hgrow5 hat5 hoo))
        go_roundg (n - (k + 1))
        case measure => omega
        case rel => exact ⟨k + 1, _, _, _, rfl, rfl, by omega, rfl, by go_num, H5.out.1, H5.out.2⟩
      · have t2 : ((x : Int) == 32) = false := by rw [beq_eq_false_iff_ne]; omega
        have HT : Hid ((txB s).take (k + 1) = (txB s).take k ++ [⟨1, 0, 0, 0⟩]) := by rw [take_snoc (HX.out.1)]; unfold tb1; rw [if_neg (by rw [← HX.out.2]; exact h32)]; exact rfl
        have HVA : Hid _ := blk22 W (.cells #[.int .u8 1, .int .u8 0, .int .u8 0, .int .u8 0] 49) (.cells #[.int .u8 1, .int .u8 0, .int .u8 0, .int .u8 0] 49)
        clear h32
        go_wp2_with (at_builtin; (refine wpList_append_lies _ rfl _ _ 22 rfl w1.heap.size 49 i3 (.agg #[.int .u8 0, .int .u8 0, .int .u8 0, .int .u8 0]) 4 4 Try.underlying22 g3 g30 g31 g32 rfl (by decide) (.slice al k c) k (btC ((txB s).take k)) rfl ((HG.out.1.alloc _).alloc _) ⟨W.heap.size + 1, 0, none⟩ 1 1 [.int .u8 1, .int .u8 0, .int .u8 0, .int .u8 0] rfl rfl (World.news_of_block (cs := #[.int .u8 1, .int .u8 0, .int .u8 0, .int .u8 0]) HVA.out.1) (fun u hu => by simp at hu; rcases hu with rfl | rfl | rfl | rfl <;> rfl) (by decide) (by unfold maxLen; omega) (by omega) (by rw [HVA.out.2]; omega) (W.heap.size + 2) HVA.out.2 ?_; intro g5 cap5 w5 hown5 hgrow5 hat5 hlt5; have hoo : Only (fun g => (Value.slice al k c).ownBlock = some g) W w5 := ((((Only.refl (fun g => (Value.slice al k c).ownBlock = some g) W).alloc _)).alloc _).grown hgrow5 (fun k hk => hk); have H5 : Hid (w5.ownsRow w1.heap.size 49 4 (.slice (some ⟨g5, 0, none⟩) (k + 1) cap5) (k + 1) (btC ((txB s).take (k + 1))) ∧ Only (fun g => w1.heap.size ≤ g) w1 w5) := ⟨by rw [HT.out, btC_snoc]; exact hown5, HG.out.2.1.trans (hoo.mono (fun g hg => (own_own HG.out.1 hg).1))⟩; clear hown5 hgrow5 hat5 hoo))
        go_roundg (n - (k + 1))
        case measure => omega
        case rel => exact ⟨k + 1, _, _, _, rfl, rfl, by omega, rfl, by go_num, H5.out.1, H5.out.2⟩
    · have t1 : decide ((k : Int) < (n : Int)) = false := decide_eq_false (by omega)
      have hkn : k = n := by omega
      subst hkn
      have HPA := para_any (txB s) al c W (by
        have h := own_vw HG.out.1
        rw [List.take_of_length_le (by rw [txB_len, HN.out.1]; exact Nat.le_refl _)] at h
        exact h) (txB_ok s) (by rw [txB_len, ← HN.out.1]; omega)
      rw [txB_len, ← HN.out.1] at HPA
      have HPA2 : Hid _ := HPA
      clear HPA
      go_wp2_with fail
      refine Calls.mono HPA2.out ?_
      rintro e w2 ⟨m, hm, ⟨_, hsum⟩, aC, aO, cC, cO, rfl, hC, hO, ho2⟩
      have hmn : m = k := by
        rcases hsum with h | h
        · exact h
        · have := cts_sum ((txB s).take m) 0
          have h2 : ((txB s).take m).length ≤ k := by rw [List.length_take]; omega
          omega
      subst hmn
      have e1 : (Pa.cts ((txB s).take m) 0).length = m := by rw [Pa.cts_len, List.length_take, txB_len, ← HN.out.1]; omega
      have e2 : (Pa.ops (txB s) m ++ [2]).length = m + 1 := by rw [List.length_append, Pa.ops_len]; rfl
      have e3 : (txB s).take m = txB s := List.take_of_length_le (by rw [txB_len, HN.out.1]; exact Nat.le_refl _)
      have hbR2 : w2.heap[R]? = some (.cells #[.slice none 0 0, .slice none 0 0] 31 (0, 0)) := blk_keep ho2 ((HG.out.2.1.block R lR1 (by omega)).trans H1.out.2.1)
      have H2 : Hid (w2.ownsRow W.heap.size 62 4 (.slice aC (Pa.cts ((txB s).take m) 0).length cC) (Pa.cts ((txB s).take m) 0).length (ctC (Pa.cts ((txB s).take m) 0)) ∧ w2.ownsRow W.heap.size 50 1 (.slice aO (Pa.ops (txB s) m ++ [2]).length cO) (Pa.ops (txB s) m ++ [2]).length (u8s (Pa.ops (txB s) m ++ [2])) ∧ Only (fun _ => False) w w2 ∧ w2.heap[R]? = some (.cells #[.slice none 0 0, .slice none 0 0] 31 (0, 0)) ∧ R < W.heap.size) := ⟨hC, hO, HG.out.2.2.trans ho2, hbR2, by omega⟩
      have HE : Hid ((Pa.cts ((txB s).take m) 0).length = m ∧ (Pa.ops (txB s) m ++ [2]).length = m + 1 ∧ (txB s).take m = txB s) := ⟨e1, e2, e3⟩
      obtain ⟨r0, r1, lR2⟩ := blk_two hbR2
      have fR : ∀ x, w2.frozen? ⟨R, x, none⟩ = false := fun x => fz_blk hbR2 x
      rw [e1, e2]
      clear hC hO ho2 hbR2 e1 e2 e3 hsum hm
      go_wp2_with fail
      refine bodyPost_ret (v := .agg #[.slice aC m cC, .slice aO (m + 1) cO]) (results_cell_row rfl _ _ R 31 #[.slice aC m cC, .slice aO (m + 1) cO] (0, 0) _ rfl (heap_setCell_at (k := 1) (heap_setCell_at (k := 0) H2.out.2.2.2.1 _) _) Try.underlying31 rfl (by kernel_rfl)) rfl ⟨aC, aO, cC, cO, rfl, ?_, ?_⟩
      · have hon : Only (fun x => x = R) w2 ((w2.setCell ⟨R, 0, none⟩ (.slice aC m cC)).setCell ⟨R, 1, none⟩ (.slice aO (m + 1) cO)) := ((Only.refl (fun x => x = R) w2).setCell (p := ⟨R, 0, none⟩) rfl _).setCell (p := ⟨R, 1, none⟩) rfl _
        have h := pa_pv (L := txB s) (k := m) (w := W) (by omega) (by rw [txB_len, ← HN.out.1]; exact Nat.le_refl _) (own_stay H2.out.1 hon (fun q hq => by have := (own_own H2.out.1 hq).1; have := H2.out.2.2.2.2; omega)) (own_stay H2.out.2.1 hon (fun q hq => by have := (own_own H2.out.2.1 hq).1; have := H2.out.2.2.2.2; omega))
        rw [HE.out.2.2] at h
        exact h
      · exact (H2.out.2.2.1.setNew (p := ⟨R, 0, none⟩) H1.out.2.2.2 _).setNew (p := ⟨R, 1, none⟩) H1.out.2.2.2 _
end Go.Proofs.Ythckdomljfdmpaa

