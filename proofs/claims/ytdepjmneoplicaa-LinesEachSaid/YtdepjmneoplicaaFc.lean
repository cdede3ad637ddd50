/-
  first.Break: a part in lines as long as may be.
-/
import Derived.Test.YtdepjmneoplicaaFb
namespace Go.Proofs.Ytdepjmneoplicaa
open Go.RowKit Go.Maps
set_option linter.unusedVariables false
set_option linter.unusedSimpArgs false
theorem lines_step {C : List Ct} {O : List Nat} {t W a b q : Nat} {D : List Ln} (h : Sp.lines C O t W a b = D ++ Sp.lines C O t W q b) (hq : q < b) : Sp.lines C O t W a b = (D ++ [Sp.ln C O t W q b]) ++ Sp.lines C O t W (Sp.nxt C O t W q b).1 b := by
  rw [h, Sp.lines_cons hq, List.append_assoc]
  rfl
theorem lines_len (C : List Ct) (O : List Nat) (t W b : Nat) : ∀ a, (Sp.lines C O t W a b).length ≤ b - a := by
  intro a
  induction h : b - a using Nat.strongRecOn generalizing a with
  | ind m ih =>
    rcases Nat.lt_or_ge a b with g | g
    · have hn := Sp.nxt_in (C := C) (O := O) (t := t) (W := W) g
      rw [Sp.lines_cons g, List.length_cons]
      have := ih (b - (Sp.nxt C O t W a b).1) (by omega) _ rfl
      omega
    · rw [Sp.lines_nil g]; exact Nat.zero_le _
theorem nxt_lt {C : List Ct} {O : List Nat} {t W a b : Nat} (hO : ∀ x ∈ O, x < 256) : (Sp.nxt C O t W a b).2 < 256 := by
  have hg : ∀ k, O.getD k 0 < 256 := fun k => by
    rw [List.getD_eq_getElem?_getD]
    cases hx : O[k]? with
    | none => decide
    | some x => exact hO x (List.mem_of_getElem? hx)
  unfold Sp.nxt
  cases Sp.bst C O t W a (b - a) with
  | some k => exact hg k
  | none =>
    dsimp only
    split
    · exact hg _
    · decide
set_option maxRecDepth 100000 in
set_option maxHeartbeats 4000000 in
theorem break_any (C : List Ct) (O : List Nat) (n m : Nat) (aC aO : Option Addr) (cC cO a b wi t mo hy pr lo : Nat) (w : World) (hP : Pv w C O n m aC aO cC cO) (hm : n < m) (hab : a ≤ b) (hb : b ≤ n) (hw : wi ≤ 1048576) (h0 : 0 < t) (ht : t ≤ 1000) :
    Calls Try.prog 20 #[.agg #[.slice aC n cC, .slice aO m cO], .int .i64 (a : Int), .int .i64 (b : Int), .agg #[.int .i64 (wi : Int), .int .i64 (t : Int), .int .u8 (mo : Int), .int .i64 (hy : Int), .int .i64 (pr : Int), .float .f64 lo]] w (lnP (Sp.lines C O t wi a b) w) := by
  obtain ⟨i3, g3, g30, g31, g32⟩ := info_parts infoLn
  have HP : Hid (Pv w C O n m aC aO cC cO) := hP
  have h1 := hP.few
  clear hP
  have mn : min (b : Int) (n : Int) = (b : Int) := by omega
  have mx : max (a : Int) 0 = (a : Int) := by omega
  go_enter Try.func20, Try.ntmps20
  go_wp2_with fail
  obtain ⟨R, B, w0, hw0, hB, hR, H0, lRB, lB, lB0⟩ := box26 w (.slice aC n cC) (.slice aO m cO) (.int .i64 (wi : Int)) (.int .i64 (t : Int)) (.int .u8 (mo : Int)) (.int .i64 (hy : Int)) (.int .i64 (pr : Int)) (.float .f64 lo) 31 35
  rw [hw0, hB, hR]
  clear hw0 hB hR
  have HS : Hid (∀ W', Only (fun g => w0.heap.size ≤ g) w0 W' → (W'.cell? ⟨R, 0, none⟩ = some (.slice aC n cC) ∧ W'.cell? ⟨R, 1, none⟩ = some (.slice aO m cO)) ∧ (W'.cell? ⟨B, 0, none⟩ = some (.int .i64 (wi : Int)) ∧ W'.cell? ⟨B, 1, none⟩ = some (.int .i64 (t : Int)) ∧ W'.cell? ⟨B, 2, none⟩ = some (.int .u8 (mo : Int)) ∧ W'.cell? ⟨B, 3, none⟩ = some (.int .i64 (hy : Int)) ∧ W'.cell? ⟨B, 4, none⟩ = some (.int .i64 (pr : Int)) ∧ W'.cell? ⟨B, 5, none⟩ = some (.float .f64 lo)) ∧ R < W'.heap.size ∧ B < W'.heap.size) := fun W' ho => by
    have lR := (Array.getElem?_eq_some_iff.1 H0.out.1).1
    have lB := (Array.getElem?_eq_some_iff.1 H0.out.2.1).1
    have e1 := (ho.block R lR (by omega)).trans H0.out.1
    have e2 := (ho.block B lB (by omega)).trans H0.out.2.1
    exact ⟨⟨(blk_two e1).1, (blk_two e1).2.1⟩, blk_six e2, (blk_two e1).2.2, (Array.getElem?_eq_some_iff.1 e2).1⟩
  obtain ⟨⟨r0, r1⟩, ⟨k0, k1, k2, k3, k4, k5⟩, lR0, lB1⟩ := HS.out w0 (Only.refl _ _)
  go_quiet (fail)
  go_wp2_with fail
  have HD0 : Hid (Only (fun g => w0.heap.size ≤ g) w0 (w0.drewN 1)) := (Only.refl _ _).drewN 1
  clear r0 r1 k0 k1 k2 k3 k4 k5 lR0 lB1
  have hs0 := H0.out.2.2.size
  go_loopg [1, 9] (b - a) (fun gh v1 v9 wr => ∃ (q k : Nat) (D : List Ln) (al : Option Addr) (c : Nat) (W : World), W = wr ∧ gh = b - q ∧ a ≤ q ∧ q ≤ b ∧ v1 = .int .i64 (q : Int) ∧ v9 = .slice al k c ∧ k ≤ q ∧ k + a ≤ q ∧ k = D.length ∧ Sp.lines C O t wi a b = D ++ Sp.lines C O t wi q b ∧ W.ownsRow w0.heap.size 54 4 (.slice al k c) k (lnC D) ∧ Only (fun g => w0.heap.size ≤ g) w0 W)
  case atStart => exact ⟨a, 0, [], none, 0, _, rfl, rfl, Nat.le_refl _, hab, rfl, rfl, Nat.zero_le _, by omega, rfl, rfl, ⟨rfl, Or.inl ⟨rfl, rfl⟩⟩, (Only.refl _ _).drewN _⟩
  case round =>
    obtain ⟨q, k, D, al, c, W, hW, rfl, hqa, hqb, rfl, rfl, hkq, hkq2, hkD, hLs, hown, hoW⟩ := hrel
    subst hW
    have HG : Hid (W.ownsRow w0.heap.size 54 4 (.slice al k c) k (lnC D) ∧ Only (fun g => w0.heap.size ≤ g) w0 W ∧ Only (fun _ => False) w W ∧ k = D.length ∧ Sp.lines C O t wi a b = D ++ Sp.lines C O t wi q b) := ⟨hown, hoW, H0.out.2.2.trans (hoW.old (fun b hb => Or.inl hb)), hkD, hLs⟩
    have hsz := hoW.size
    obtain ⟨⟨r0, r1⟩, ⟨k0, k1, k2, k3, k4, k5⟩, lRW, lBW⟩ := HS.out W hoW
    clear hown hoW hkD hLs
    by_cases hlt : q < b
    · have t1 : (q : Int) < (b : Int) := by omega
      obtain ⟨x1, hx1⟩ : ∃ x, x = (Sp.nxt C O t wi q b).1 := ⟨_, rfl⟩
      obtain ⟨x2, hx2⟩ : ∃ x, x = (Sp.nxt C O t wi q b).2 := ⟨_, rfl⟩
      have hin := Sp.nxt_in (C := C) (O := O) (t := t) (W := wi) hlt
      have hx28 : x2 < 256 := by rw [hx2]; exact nxt_lt HP.out.oO
      obtain ⟨ce, hce⟩ : ∃ x, x = Sp.cel C t q (x1 - q) x2 := ⟨_, rfl⟩
      have HN : Hid (Sp.ln C O t wi q b = ⟨q, x1, ce, x2⟩ ∧ x1 = (Sp.nxt C O t wi q b).1) := ⟨by rw [hce, ← wde_cel, hx1, hx2]; rfl, hx1⟩
      rw [← hx1] at hin
      have HLE : Hid (∀ W', Only (fun _ => False) w W' → Calls Try.prog 29 #[.agg #[.slice aC n cC, .slice aO m cO], .int .i64 (q : Int), .int .i64 (b : Int), .agg #[.int .i64 (wi : Int), .int .i64 (t : Int), .int .u8 (mo : Int), .int .i64 (hy : Int), .int .i64 (pr : Int), .float .f64 lo]] W' fun e w' => e = .returned (.tuple #[.int .i64 (x1 : Int), .int .u8 (x2 : Int)]) ∧ Only (fun _ => False) W' w') := fun W' ho => by
        rw [hx1, hx2]
        exact lineEnd_any C O n m aC aO cC cO q b wi t mo hy pr lo W' (HP.out.keep ho) hm hlt hb hw h0 ht
      have HMK : Hid (∀ W', Only (fun _ => False) w W' → Calls Try.prog 30 #[.agg #[.slice aC n cC, .slice aO m cO], .int .i64 (q : Int), .int .i64 (x1 : Int), .int .u8 (x2 : Int), .int .i64 (t : Int)] W' fun e w' => e = .returned (.agg #[.int .i64 (q : Int), .int .i64 (x1 : Int), .int .i64 (ce : Int), .int .u8 (x2 : Int)]) ∧ Only (fun _ => False) W' w') := fun W' ho => by
        rw [hce]
        exact make_any C O n m aC aO cC cO q x1 t x2 W' (HP.out.keep ho) (by omega) (by omega) h0 ht hx28
      clear hx1 hx2 hce
      go_wp2_with fail
      refine Calls.mono (HLE.out _ HG.out.2.2.1) ?_
      rintro e w2 ⟨rfl, ho2⟩
      have H2 : Hid (Only (fun _ => False) W w2 ∧ Only (fun g => w0.heap.size ≤ g) w0 w2 ∧ Only (fun _ => False) w w2) := ⟨ho2, HG.out.2.1.trans (ho2.mono (fun _ h => h.elim)), HG.out.2.2.1.trans ho2⟩
      obtain ⟨⟨s0, s1⟩, ⟨u0, u1, u2, u3, u4, u5⟩, lRW2, lBW2⟩ := HS.out w2 H2.out.2.1
      clear ho2 r0 r1 k0 k1 k2 k3 k4 k5 lRW lBW
      go_wp2_with fail
      refine Calls.mono (HMK.out _ H2.out.2.2) ?_
      rintro e w3 ⟨rfl, ho3⟩
      have H3 : Hid (Only (fun _ => False) W w3 ∧ w3.ownsRow w0.heap.size 54 4 (.slice al k c) k (lnC D)) := ⟨H2.out.1.trans ho3, own_only HG.out.1 (H2.out.1.trans ho3) (fun _ _ h => h)⟩
      have HVA : Hid _ := blk1 w3 (.cells #[.int .i64 (q : Int), .int .i64 (x1 : Int), .int .i64 (ce : Int), .int .u8 (x2 : Int)] 54)
      clear ho3 s0 s1 u0 u1 u2 u3 u4 u5 lRW2 lBW2
      go_wp2_with (at_builtin; (refine wpList_append_lies _ rfl _ _ 37 rfl w0.heap.size 54 i3 (.agg #[.int .i64 0, .int .i64 0, .int .i64 0, .int .u8 0]) 4 32 Try.underlying37 g3 g30 g31 g32 rfl (by decide) (.slice al k c) k (lnC D) rfl (H3.out.2.alloc _) ⟨w3.heap.size, 0, none⟩ 1 1 [.int .i64 (q : Int), .int .i64 (x1 : Int), .int .i64 (ce : Int), .int .u8 (x2 : Int)] rfl rfl (World.news_of_block (cs := #[.int .i64 (q : Int), .int .i64 (x1 : Int), .int .i64 (ce : Int), .int .u8 (x2 : Int)]) HVA.out.1) (fun u hu => by simp at hu; rcases hu with rfl | rfl | rfl | rfl <;> rfl) (by decide) (by unfold maxLen; omega) (by omega) (by rw [HVA.out.2]; have := H3.out.1.size; omega) (w3.heap.size + 1) HVA.out.2 ?_; intro g5 cap5 w5 hown5 hgrow5 hat5 hlt5; have hoo : Only (fun g => (Value.slice al k c).ownBlock = some g) w3 w5 := (((Only.refl (fun g => (Value.slice al k c).ownBlock = some g) w3).alloc _)).grown hgrow5 (fun k hk => hk); have H5 : Hid (w5.ownsRow w0.heap.size 54 4 (.slice (some ⟨g5, 0, none⟩) (k + 1) cap5) (k + 1) (lnC (D ++ [⟨q, x1, ce, x2⟩])) ∧ Only (fun g => w0.heap.size ≤ g) w0 w5) := ⟨by rw [lnC_snoc]; exact hown5, HG.out.2.1.trans ((H3.out.1.mono (fun _ h => h.elim)).trans (hoo.mono (fun g hg => (own_own H3.out.2 hg).1)))⟩; clear hown5 hgrow5 hat5 hoo))
      go_roundg (b - x1)
      case measure => omega
      case rel => exact ⟨x1, k + 1, D ++ [⟨q, x1, ce, x2⟩], _, _, _, rfl, rfl, by omega, by omega, rfl, rfl, by omega, by omega, by rw [List.length_append, ← HG.out.2.2.2.1]; rfl, by rw [← HN.out.1, HN.out.2]; exact lines_step HG.out.2.2.2.2 hlt, H5.out.1, H5.out.2⟩
    · have t1 : decide ((q : Int) < (b : Int)) = false := decide_eq_false (by omega)
      have HL : Hid (Sp.lines C O t wi a b = D) := by rw [HG.out.2.2.2.2, Sp.lines_nil (show b ≤ q by omega)]; exact List.append_nil _
      go_wp2_with fail
      go_ret
      exact ⟨k, al, c, by rw [HL.out]; exact HG.out.2.2.2.1, rfl, by rw [HL.out]; exact own_base2 HG.out.1 hs0, HG.out.2.2.1⟩
end Go.Proofs.Ytdepjmneoplicaa

