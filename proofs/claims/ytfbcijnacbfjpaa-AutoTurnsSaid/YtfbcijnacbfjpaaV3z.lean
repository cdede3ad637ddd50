/-
  The maker of rules: the text of a plan, its walk.
-/
import Derived.Test.YtfbcijnacbfjpaaV1z
namespace Go.Proofs.Ytfbcijnacbfjpaa
open Go.RowKit Go.Maps
set_option linter.unusedVariables false
set_option linter.unusedSimpArgs false
set_option maxRecDepth 100000 in
set_option maxHeartbeats 4000000 in
theorem expr_hand2 (n : Nat) (a : Option Addr) (k cap : Nat) (L : List Nat) (w : World) (hn : 1 ≤ n) (hn6 : n ≤ 6) (hB : Bw w a k L) (hkc : k ≤ cap) :
    Calls Try.prog 40 #[.int .i64 (n : Int), .slice a k cap] w fun e w' => e = .returned (.string (bs (Hd.expr n L))) ∧ Only (fun _ => False) w w' := by
  have hl : L.length = k := hB.1
  have HB : Hid (Bw w a k L) := hB
  by_cases h0 : k = 0
  · subst h0
    rw [show Hd.expr n L = [] by unfold Hd.expr; rw [if_pos hl]]
    clear hB hl
    go_enter Try.func40, Try.ntmps40
    go_wp2_with fail
    go_ret
    exact ⟨rfl, Only.refl _ w⟩
  · rw [show Hd.expr n L = (Hd.ex n (L.take 30) 3 0).1 by unfold Hd.expr; rw [if_neg (by omega)]]
    obtain ⟨b, off, ha, hb⟩ : ∃ b off, a = some ⟨b, off, none⟩ ∧ b < w.heap.size := by
      obtain ⟨_, b, off, h1, _⟩ := hB
      exact ⟨b, off, (h1 (by omega)).1, (h1 (by omega)).2⟩
    subst ha
    have t1 : ¬ (k : Int) = 0 := by omega
    have t2 : decide ((k : Int) = 0) = false := decide_eq_false t1
    by_cases h30 : k ≤ 30
    · rw [show L.take 30 = L from List.take_of_length_le (by omega)]
      have HBT : Hid (Bw w (some ⟨b, off, none⟩) k L) := HB.out
      have t3 : (k : Int) ≤ 30 := by omega
      clear hB hl
      go_enter Try.func40, Try.ntmps40
      go_wp2_with fail
      refine (ex_all n w.heap.size (some ⟨b, off, none⟩) k cap L hn hn6 (by omega) (fun o e => by injection e with e; injection e with e1 e2; omega) 0 _ (by unfold Rb; show (w.heap.push _)[w.heap.size]? = _; simp; (try rfl); (try omega)) (HBT.out.only ((Only.refl (fun _ => False) w).alloc _) (fun _ _ h => h.elim)) (by omega)).mono ?_
      rintro e w1 ⟨rfl, hR1, ho1⟩
      go_wp2_with fail
      go_ret
      exact ⟨rfl, Only.newAt (((Only.refl _ w).alloc _).trans ho1)⟩
    · have HBT : Hid (Bw w (some ⟨b, off, none⟩) 30 (L.take 30)) := HB.out.take 30 (by omega)
      have t3 : ¬ (k : Int) ≤ 30 := by omega
      clear hB hl
      go_enter Try.func40, Try.ntmps40
      go_wp2_with fail
      refine (ex_all n w.heap.size (some ⟨b, off, none⟩) 30 cap (L.take 30) hn hn6 (by omega) (fun o e => by injection e with e; injection e with e1 e2; omega) 0 _ (by unfold Rb; show (w.heap.push _)[w.heap.size]? = _; simp; (try rfl); (try omega)) (HBT.out.only ((Only.refl (fun _ => False) w).alloc _) (fun _ _ h => h.elim)) (by omega)).mono ?_
      rintro e w1 ⟨rfl, hR1, ho1⟩
      go_wp2_with fail
      go_ret
      exact ⟨rfl, Only.newAt (((Only.refl _ w).alloc _).trans ho1)⟩
set_option maxRecDepth 100000 in
set_option maxHeartbeats 8000000 in
theorem text_hand0 (c af : Nat) (aT : Option Addr) (nT cT : Nat) (T : List Nat) (aR : Option Addr) (nR cR : Nat) (rs : List Pr) (w : World) (hc : c ≤ 255) (haf : af ≤ 255) (hT : Bw w aT nT T) (hR : Rw w aR nR rs) :
    Calls Try.prog 24 #[planV c 0 af aT nT cT aR nR cR] w fun e w' => e = .returned (.string (bs (Hd.text (1 + c % 6) 0 af T rs))) ∧ Only (fun _ => False) w w' := by
  have HT : Hid (Bw w aT nT T) := hT
  have HR : Hid (Rw w aR nR rs) := hR
  have HC : Hid (Bw w aT nT T) := hT
  obtain ⟨n, hn⟩ : ∃ n, n = 1 + c % 6 := ⟨_, rfl⟩
  have HN : Hid (n = 1 + c % 6) := hn
  have hn1 : 1 ≤ n := by omega
  have hn6 : n ≤ 6 := by omega
  rw [← hn]
  have sF := (Hd.first_len n hn6).1
  obtain ⟨mN, sN, lN⟩ := sz (Hd.names n 255 n)
  have hNl := Hd.names_len n 255 n
  have mNl : mN ≤ 12 := by omega
  have e1 : (⟨#[99, 108, 97, 115, 115]⟩ : ByteArray) ++ bs (Hd.names n 255 n) = bs (Hd.cat [99, 108, 97, 115, 115] (Hd.names n 255 n)) := catL _ _
  have s1 : (bs (Hd.cat [99, 108, 97, 115, 115] (Hd.names n 255 n))).size = 5 + mN := cat_sz (bs_size _) sN
  have e2 : bs (Hd.cat [99, 108, 97, 115, 115] (Hd.names n 255 n)) ++ (⟨#[59, 10]⟩ : ByteArray) = bs (Hd.first n) := catR _ _
  obtain ⟨m1, sm1, lm1⟩ := sz (Hd.first n)
  have hm1 : m1 ≤ 19 := by omega
  clear hT hR hn lN hNl lm1 sF
  obtain ⟨bx, hbx⟩ : ∃ bx, bx = w.alloc (.cells #[.int .u8 (c : Int), .int .u8 0, .int .u8 (af : Int), .slice aT nT cT, .slice aR nR cR] 25) := ⟨_, rfl⟩
  have HBX : Hid (bx = w.alloc (.cells #[.int .u8 (c : Int), .int .u8 0, .int .u8 (af : Int), .slice aT nT cT, .slice aR nR cR] 25)) := hbx
  have HP0 : Hid (Pbx bx w.heap.size c 0 af aT nT cT aR nR cR) := by rw [hbx]; exact heap_alloc_new w _
  clear hbx
  unfold planV
  go_enter Try.func24, Try.ntmps24
  go_wp2_with (first | (go_at_call 37; refine (count_hand c 0 af aT nT cT aR nR cR _ hc).mono ?_; rintro e w1 ⟨rfl, ho1⟩; rw [← HN.out]; rw [← HBX.out] at ho1; have HO1 : Hid (Only (fun _ => False) bx w1) := ho1; have HP1 : Hid (Pbx w1 w.heap.size c 0 af aT nT cT aR nR cR) := HP0.out.keep ho1; clear ho1) | (go_at_call 38; refine (names_hand n 255 _ hn1 hn6 (by omega)).mono ?_; rintro e w2 ⟨rfl, ho2⟩; have HP2 : Hid (Pbx w2 w.heap.size c 0 af aT nT cT aR nR cR) := HP1.out.keep ho2; have d1 : w2.cell? ⟨w.heap.size, 1, none⟩ = some (.int .u8 0) := HP2.out.c1; have d3 := HP2.out.c3; have HO2 : Hid (Only (fun _ => False) bx w2) := HO1.out.trans ho2; clear ho2))
  clear d1 d3
  go_loopg [4, 5] 6 (fun g out i wr => ∃ (k : Nat) (W : World), W = wr ∧ g = 6 - k ∧ k ≤ n ∧ k ≤ nT ∧ out = .string (bs (Hd.treat n T (Hd.first n) k)) ∧ i = .int .i64 (k : Int) ∧ Only (fun _ => False) bx W)
  case atStart => exact ⟨0, _, rfl, rfl, by omega, by omega, rfl, rfl, HO2.out⟩
  case round =>
    obtain ⟨k, W, hW, rfl, hk, hkT, rfl, rfl, hOr⟩ := hrel
    subst hW
    have HOr : Hid (Only (fun _ => False) bx W) := hOr
    have hP : Pbx W w.heap.size c 0 af aT nT cT aR nR cR := HP0.out.keep hOr
    have HP : Hid (Pbx W w.heap.size c 0 af aT nT cT aR nR cR) := hP
    have d3 := hP.c3
    have hTW : Bw W aT nT T := HT.out.keep (((Only.refl (fun _ => False) w).alloc _).trans (HBX.out ▸ hOr))
    have HTW : Hid (Bw W aT nT T) := hTW
    obtain ⟨X, hX⟩ : ∃ X, X = Hd.treat n T (Hd.first n) k := ⟨_, rfl⟩
    have HX : Hid (X = Hd.treat n T (Hd.first n) k) := hX
    have lX : X.length ≤ 19 + 13 * k := by rw [hX, Hd.treat_len]; have := (Hd.first_len n hn6).1; omega
    rw [← hX]
    obtain ⟨mX, sX, lmX⟩ := sz X
    have hmX : mX ≤ 97 := by omega
    clear hX lX lmX hP hOr
    by_cases hlt : k < nT
    · by_cases hln : k < n
      · obtain ⟨hl, b, off, h1, h2⟩ := hTW
        obtain ⟨ha, hb⟩ := h1 (by omega)
        obtain ⟨x, hx⟩ : ∃ x, T[k]? = some x := ⟨T[k]'(by omega), List.getElem?_eq_getElem _⟩
        obtain ⟨hx2, hcx⟩ := h2 k x hx
        have HAT : Hid (Hd.at' T k = x) := by show Hd.at' T k = x; unfold Hd.at'; rw [hx]; rfl
        have HA : Hid (aT = some ⟨b, off, none⟩) := ha
        have hKp : ∀ w' : World, Only (fun _ => False) W w' → (w'.cell? ⟨w.heap.size, 3, none⟩ = some (.slice (some ⟨b, off, none⟩) nT cT) ∧ w'.cell? ⟨b, off + k, none⟩ = some (.int .u8 (x : Int))) := fun w' ho => ⟨by rw [← ha]; exact (HP.out.keep ho).c3, (World.cell?_of_block (a := ⟨b, off + k, none⟩) (ho.block b hb (fun h => h))).trans hcx⟩
        have HKp : Hid (∀ w' : World, Only (fun _ => False) W w' → (w'.cell? ⟨w.heap.size, 3, none⟩ = some (.slice (some ⟨b, off, none⟩) nT cT) ∧ w'.cell? ⟨b, off + k, none⟩ = some (.int .u8 (x : Int)))) := hKp
        have t1 : (k : Int) < (nT : Int) := by omega
        have t2 : (k : Int) < (n : Int) := by omega
        have e3 : bs X ++ (⟨#[116, 114, 101, 97, 116, 32]⟩ : ByteArray) = bs (Hd.cat X [116, 114, 101, 97, 116, 32]) := catR _ _
        obtain ⟨Y1, hY1⟩ : ∃ Y, Y = Hd.cat X [116, 114, 101, 97, 116, 32] := ⟨_, rfl⟩
        rw [← hY1] at e3
        obtain ⟨m3, s3, l3⟩ := sz Y1
        have e4 : bs Y1 ++ bs (Hd.name n k) = bs (Hd.cat Y1 (Hd.name n k)) := bs_cat _ _
        obtain ⟨Y2, hY2⟩ : ∃ Y, Y = Hd.cat Y1 (Hd.name n k) := ⟨_, rfl⟩
        rw [← hY2] at e4
        obtain ⟨m4, s4, l4⟩ := sz Y2
        have e5 : bs Y2 ++ (⟨#[32, 61, 32]⟩ : ByteArray) = bs (Hd.cat Y2 [32, 61, 32]) := catR _ _
        obtain ⟨Y3, hY3⟩ : ∃ Y, Y = Hd.cat Y2 [32, 61, 32] := ⟨_, rfl⟩
        rw [← hY3] at e5
        obtain ⟨m5, s5, l5⟩ := sz Y3
        have e6 : bs Y3 ++ bs (Hd.name n x) = bs (Hd.cat Y3 (Hd.name n x)) := bs_cat _ _
        obtain ⟨Y4, hY4⟩ : ∃ Y, Y = Hd.cat Y3 (Hd.name n x) := ⟨_, rfl⟩
        rw [← hY4] at e6
        obtain ⟨m6, s6, l6⟩ := sz Y4
        have e7 : bs Y4 ++ (⟨#[59, 10]⟩ : ByteArray) = bs (Hd.cat Y4 [59, 10]) := catR _ _
        obtain ⟨Y5, hY5⟩ : ∃ Y, Y = Hd.cat Y4 [59, 10] := ⟨_, rfl⟩
        rw [← hY5] at e7
        have HY5 : Hid (Y5 = Hd.cat (Hd.cat (Hd.cat (Hd.cat (Hd.cat X [116, 114, 101, 97, 116, 32]) (Hd.name n k)) [32, 61, 32]) (Hd.name n x)) [59, 10]) := by show Y5 = _; rw [hY5, hY4, hY3, hY2, hY1]
        have b3 : m3 = X.length + 6 := by rw [l3, hY1, Hd.cat_len]; rfl
        have b4 : m4 = m3 + 1 := by rw [l4, hY2, Hd.cat_len, l3]; rfl
        have b5 : m5 = m4 + 3 := by rw [l5, hY3, Hd.cat_len, l4]; rfl
        have b6 : m6 = m5 + 1 := by rw [l6, hY4, Hd.cat_len, l5]; rfl
        have hXl : X.length ≤ 97 := by have := bs_size X; omega
        have b3' : m3 ≤ 200 := by omega
        have b4' : m4 ≤ 200 := by omega
        have b5' : m5 ≤ 200 := by omega
        have b6' : m6 ≤ 200 := by omega
        clear b3 b4 b5 b6 l3 l4 l5 l6 hY1 hY2 hY3 hY4 hY5 hXl
        have sk : (bs (Hd.name n k)).size = 1 := bs_size _
        have sx : (bs (Hd.name n x)).size = 1 := bs_size _
        have hwx : IntKind.i64.wrap (x : Int) = (x : Int) := by simp only [IntKind.wrap]; first | omega | (simp; omega) | (unfold IntKind.bits; simp; omega)
        have z6 : (⟨#[116, 114, 101, 97, 116, 32]⟩ : ByteArray).size = 6 := rfl
        have z3 : (⟨#[32, 61, 32]⟩ : ByteArray).size = 3 := rfl
        have z2 : (⟨#[59, 10]⟩ : ByteArray).size = 2 := rfl
        have p1 : (9223372036854775807 < mX + 6) = False := eq_false (by omega)
        have q1 : (9223372036854775801 < mX) = False := eq_false (by omega)
        have p2 : (9223372036854775807 < m3 + 1) = False := eq_false (by omega)
        have q2 : (9223372036854775806 < m3) = False := eq_false (by omega)
        have p3 : (9223372036854775807 < m4 + 3) = False := eq_false (by omega)
        have q3 : (9223372036854775804 < m4) = False := eq_false (by omega)
        have p4 : (9223372036854775807 < m5 + 1) = False := eq_false (by omega)
        have q4 : (9223372036854775806 < m5) = False := eq_false (by omega)
        have p5 : (9223372036854775807 < m6 + 2) = False := eq_false (by omega)
        have q5 : (9223372036854775805 < m6) = False := eq_false (by omega)
        clear h1 h2 hl hx hcx hKp e1 s1 e2 sN sm1 mNl hm1 d3
        subst ha
        have d3 : W.cell? ⟨w.heap.size, 3, none⟩ = some (.slice (some ⟨b, off, none⟩) nT cT) := HP.out.c3
        go_wp2_with fail
        go_region_held3 (fun w' => w'.cell? ⟨w.heap.size, 3, none⟩ = some (.slice (some ⟨b, off, none⟩) nT cT) ∧ w'.cell? ⟨b, off + k, none⟩ = some (.int .u8 (x : Int))) ((first | exact HKp.out _ ((Only.refl (fun _ => False) W).drew) | exact HKp.out _ ho4 | exact HKp.out _ ho3)) ((first | (go_at_call 39; have hgd := ho3; refine (name_nat n x _ hn1 hn6 hx2).mono ?_; clear hgd; rintro en w4 ⟨rfl, ho4'⟩; have ho4 : Only (fun _ => False) W w4 := ho3.trans ho4'; clear ho4') | (go_at_call 39; refine (name_nat n k _ hn1 hn6 (by omega)).mono ?_; rintro en w3 ⟨rfl, ho3'⟩; have ho3 : Only (fun _ => False) W w3 := ((Only.refl (fun _ => False) W).drew).trans ho3'; clear ho3')))
        go_wp2_with fail
        go_roundg (6 - (k + 1))
        case measure => omega
        case rel => exact ⟨k + 1, _, rfl, rfl, by omega, by omega, by rw [HY5.out, HX.out, Hd.treat, HAT.out], by go_num, HOr.out.trans ho4⟩
      · have hmin : k = min T.length n := by have := HTW.out.1; omega
        have t1 : (k : Int) < (nT : Int) := by omega
        have t2 : ¬ (k : Int) < (n : Int) := by omega
        have t3 : decide ((k : Int) < (n : Int)) = false := decide_eq_false t2
        have HMIN : Hid (k = min T.length n) := hmin
        clear hTW hmin e1 s1 e2 sN sm1 mNl hm1
        go_wp2_with fail
        obtain ⟨W2, hW2⟩ : ∃ W2, W2 = W.alloc (.cells #[.string ⟨#[107, 101, 101, 112, 32]⟩, .string ⟨#[109, 97, 121, 32]⟩, .string ⟨#[109, 117, 115, 116, 32]⟩] 9) := ⟨_, rfl⟩
        have HW2 : Hid (W2 = W.alloc (.cells #[.string ⟨#[107, 101, 101, 112, 32]⟩, .string ⟨#[109, 97, 121, 32]⟩, .string ⟨#[109, 117, 115, 116, 32]⟩] 9)) := hW2
        have HOW : Hid (Only (fun _ => False) bx W2) := by rw [hW2]; exact HOr.out.alloc _
        have HWD : Hid (W2.heap[W.heap.size]? = some (.cells #[.string ⟨#[107, 101, 101, 112, 32]⟩, .string ⟨#[109, 97, 121, 32]⟩, .string ⟨#[109, 117, 115, 116, 32]⟩] 9 (0, 0))) := by rw [hW2]; exact heap_alloc_new W _
        have lX2 : X.length ≤ 97 := by have := bs_size X; omega
        clear hW2
        go_loopg [4, 7] 10 (fun g out i wr => ∃ (q : Nat) (V : World), V = wr ∧ g = 10 - q ∧ q ≤ 10 ∧ q ≤ nR ∧ out = .string (bs (Hd.ru n rs X q)) ∧ i = .int .i64 (q : Int) ∧ Only (fun _ => False) W2 V)
        case atStart => exact ⟨0, _, rfl, rfl, by omega, by omega, rfl, rfl, by rw [HW2.out]; exact Only.refl _ _⟩
        case round =>
          obtain ⟨q, V, hV, rfl, hq, hqR, rfl, rfl, hOv⟩ := hrel
          subst hV
          have HOv : Hid (Only (fun _ => False) W2 V) := hOv
          have hOb : Only (fun _ => False) bx V := HOW.out.trans hOv
          have HP4 : Hid (Pbx V w.heap.size c 0 af aT nT cT aR nR cR) := HP0.out.keep hOb
          have HOw : Hid (Only (fun _ => False) w V) := ((Only.refl (fun _ => False) w).alloc _).trans (HBX.out ▸ hOb)
          have HRW : Hid (Rw V aR nR rs) := HR.out.keep HOw.out
          have d4 := HP4.out.c4
          obtain ⟨Z, hZ⟩ : ∃ Z, Z = Hd.ru n rs X q := ⟨_, rfl⟩
          have HZ : Hid (Z = Hd.ru n rs X q) := hZ
          have lZ : Z.length ≤ 97 + 874 * q := by rw [hZ]; have := (Hd.ru_len n rs X hn6 q).1; omega
          rw [← hZ]
          obtain ⟨mZ, sZ, lmZ⟩ := sz Z
          have hmZ : mZ ≤ 9000 := by omega
          clear hZ lZ lmZ hOb hOv
          by_cases hlt2 : q < nR
          · by_cases hlq : q < 10
            · obtain ⟨hl, b, off, h1, h2⟩ := HRW.out
              obtain ⟨ha, hb⟩ := h1 (by omega)
              obtain ⟨y, hy⟩ : ∃ y, rs[q]? = some y := ⟨rs[q]'(by omega), List.getElem?_eq_getElem _⟩
              have HY : Hid (rs[q]? = some y) := hy
              obtain ⟨o, c0, c1, c2⟩ := h2 q y hy
              clear hy h1 h2 hl
              obtain ⟨yd, la, ln, lc, L, ra, rn, rc, R⟩ := y
              obtain ⟨o1, o2, o3, o4, o5, o6, o7⟩ := o
              dsimp only at o1 o2 o3 o4 o5 o6 o7 c0 c1 c2
              have HL : Hid (Bw V la ln L) := o2
              have HRr : Hid (Bw V ra rn R) := o5
              clear o2 o5 o4 o7
              obtain ⟨e, he⟩ : ∃ e, e = yd % 3 := ⟨_, rfl⟩
              have hme : (yd : Int) % 3 = (e : Int) := by omega
              have he3 : e < 3 := by omega
              have HE3 : Hid (e = yd % 3) := he
              have hKp : ∀ w' : World, Only (fun _ => False) V w' → (w'.cell? ⟨w.heap.size, 4, none⟩ = some (.slice (some ⟨b, off, none⟩) nR cR) ∧ w'.cell? ⟨b, off + q * 3, none⟩ = some (.int .u8 (yd : Int)) ∧ w'.cell? ⟨b, off + q * 3 + 1, none⟩ = some (.slice la ln lc) ∧ w'.cell? ⟨b, off + q * 3 + 2, none⟩ = some (.slice ra rn rc) ∧ w'.cell? ⟨W.heap.size, ((yd : Int) % 3).toNat, none⟩ = some (.string (bs (Hd.word yd)))) := fun w' ho => by
                have hblk := ho.block b hb (fun h => h)
                refine ⟨by rw [← ha]; exact (HP4.out.keep ho).c4, (World.cell?_of_block (a := ⟨b, off + q * 3, none⟩) hblk).trans c0, (World.cell?_of_block (a := ⟨b, off + q * 3 + 1, none⟩) hblk).trans c1, (World.cell?_of_block (a := ⟨b, off + q * 3 + 2, none⟩) hblk).trans c2, ?_⟩
                have hg : w'.heap[W.heap.size]? = some (.cells #[.string ⟨#[107, 101, 101, 112, 32]⟩, .string ⟨#[109, 97, 121, 32]⟩, .string ⟨#[109, 117, 115, 116, 32]⟩] 9 (0, 0)) := ((HOv.out.trans ho).block _ (Array.getElem?_eq_some_iff.1 HWD.out).1 (fun h => h)).trans HWD.out
                rw [show ((yd : Int) % 3).toNat = e by omega, cell_of_row _ _ _ _ _ _ hg]
                unfold Hd.word
                rw [← HE3.out]
                rcases (show e = 0 ∨ e = 1 ∨ e = 2 by omega) with r | r | r
                · subst r; rfl
                · subst r; rfl
                · subst r; rfl
              have HKp : Hid (∀ w' : World, Only (fun _ => False) V w' → (w'.cell? ⟨w.heap.size, 4, none⟩ = some (.slice (some ⟨b, off, none⟩) nR cR) ∧ w'.cell? ⟨b, off + q * 3, none⟩ = some (.int .u8 (yd : Int)) ∧ w'.cell? ⟨b, off + q * 3 + 1, none⟩ = some (.slice la ln lc) ∧ w'.cell? ⟨b, off + q * 3 + 2, none⟩ = some (.slice ra rn rc) ∧ w'.cell? ⟨W.heap.size, ((yd : Int) % 3).toNat, none⟩ = some (.string (bs (Hd.word yd))))) := hKp
              clear hKp c0 c1 c2 he
              have hE : e = 0 ∨ e = 1 ∨ e = 2 := by omega
              have t4 : (q : Int) < (nR : Int) := by omega
              have t5 : (q : Int) < 10 := by omega
              have htm : (yd : Int).tmod 3 = (yd : Int) % 3 := Int.tmod_eq_emod_of_nonneg (by omega)
              have t6 : (0 : Int) ≤ (yd : Int) % 3 := by omega
              have t7 : (yd : Int) % 3 < 3 := by omega
              have hwe : IntKind.u8.wrap ((yd : Int) % 3) = (yd : Int) % 3 := by simp only [IntKind.wrap]; first | omega | (simp; omega) | (unfold IntKind.bits; simp; omega)
              obtain ⟨mW, sW, lW⟩ := sz (Hd.word yd)
              obtain ⟨mL, sL, lL⟩ := sz (Hd.expr n L)
              obtain ⟨mR, sR, lR⟩ := sz (Hd.expr n R)
              have hW5 := (Hd.word_len yd).1
              have hL4 := Hd.expr_len n L hn6
              have hR4 := Hd.expr_len n R hn6
              have f1 : bs Z ++ bs (Hd.word yd) = bs (Hd.cat Z (Hd.word yd)) := bs_cat _ _
              obtain ⟨Z1, hZ1⟩ : ∃ Zz, Zz = Hd.cat Z (Hd.word yd) := ⟨_, rfl⟩
              rw [← hZ1] at f1
              have f2 : bs Z1 ++ bs (Hd.expr n L) = bs (Hd.cat Z1 (Hd.expr n L)) := bs_cat _ _
              obtain ⟨Z2, hZ2⟩ : ∃ Zz, Zz = Hd.cat Z1 (Hd.expr n L) := ⟨_, rfl⟩
              rw [← hZ2] at f2
              have f3 : bs Z2 ++ (⟨#[32, 47, 32]⟩ : ByteArray) = bs (Hd.cat Z2 [32, 47, 32]) := catR _ _
              obtain ⟨Z3, hZ3⟩ : ∃ Zz, Zz = Hd.cat Z2 [32, 47, 32] := ⟨_, rfl⟩
              rw [← hZ3] at f3
              have f4 : bs Z3 ++ bs (Hd.expr n R) = bs (Hd.cat Z3 (Hd.expr n R)) := bs_cat _ _
              obtain ⟨Z4, hZ4⟩ : ∃ Zz, Zz = Hd.cat Z3 (Hd.expr n R) := ⟨_, rfl⟩
              rw [← hZ4] at f4
              have f5 : bs Z4 ++ (⟨#[59, 10]⟩ : ByteArray) = bs (Hd.cat Z4 [59, 10]) := catR _ _
              obtain ⟨Z5, hZ5⟩ : ∃ Zz, Zz = Hd.cat Z4 [59, 10] := ⟨_, rfl⟩
              rw [← hZ5] at f5
              have HZ5 : Hid (Z5 = Hd.cat (Hd.cat (Hd.cat (Hd.cat (Hd.cat Z (Hd.word yd)) (Hd.expr n L)) [32, 47, 32]) (Hd.expr n R)) [59, 10]) := by show Z5 = _; rw [hZ5, hZ4, hZ3, hZ2, hZ1]
              obtain ⟨n1, r1, l1⟩ := sz Z1
              obtain ⟨n2, r2, l2⟩ := sz Z2
              obtain ⟨n3, r3, l3⟩ := sz Z3
              obtain ⟨n4, r4, l4⟩ := sz Z4
              have b1 : n1 = mZ + mW := by rw [l1, hZ1, Hd.cat_len, lW]; have := bs_size Z; omega
              have b2 : n2 = n1 + mL := by rw [l2, hZ2, Hd.cat_len, lL, l1]
              have b3 : n3 = n2 + 3 := by rw [l3, hZ3, Hd.cat_len, l2]; rfl
              have b4 : n4 = n3 + mR := by rw [l4, hZ4, Hd.cat_len, lR, l3]
              have g1 : n1 ≤ 20000 := by omega
              have g2 : n2 ≤ 20000 := by omega
              have g3 : n3 ≤ 20000 := by omega
              have g4 : n4 ≤ 20000 := by omega
              have gW : mW ≤ 5 := by omega
              have gL : mL ≤ 432 := by omega
              have gR : mR ≤ 432 := by omega
              clear b1 b2 b3 b4 l1 l2 l3 l4 lW lL lR hZ1 hZ2 hZ3 hZ4 hZ5 hW5 hL4 hR4
              have z3 : (⟨#[32, 47, 32]⟩ : ByteArray).size = 3 := rfl
              have z2 : (⟨#[59, 10]⟩ : ByteArray).size = 2 := rfl
              have p1 : (9223372036854775807 < mZ + mW) = False := eq_false (by omega)
              have p2 : (9223372036854775807 < n1 + mL) = False := eq_false (by omega)
              have p3 : (9223372036854775807 < n2 + 3) = False := eq_false (by omega)
              have p3' : (9223372036854775804 < n2) = False := eq_false (by omega)
              have p4 : (9223372036854775807 < n3 + mR) = False := eq_false (by omega)
              have p5 : (9223372036854775807 < n4 + 2) = False := eq_false (by omega)
              have p5' : (9223372036854775805 < n4) = False := eq_false (by omega)
              subst ha
              clear he3 hme hE
              go_wp2_with fail
              go_region_held3 (fun w' => w'.cell? ⟨w.heap.size, 4, none⟩ = some (.slice (some ⟨b, off, none⟩) nR cR) ∧ w'.cell? ⟨b, off + q * 3, none⟩ = some (.int .u8 (yd : Int)) ∧ w'.cell? ⟨b, off + q * 3 + 1, none⟩ = some (.slice la ln lc) ∧ w'.cell? ⟨b, off + q * 3 + 2, none⟩ = some (.slice ra rn rc) ∧ w'.cell? ⟨W.heap.size, ((yd : Int) % 3).toNat, none⟩ = some (.string (bs (Hd.word yd)))) ((first | exact HKp.out _ ((Only.refl (fun _ => False) V).drew) | exact HKp.out _ ho6 | exact HKp.out _ ho5)) ((first | (go_at_call 40; have hgd := ho5; refine (expr_hand2 n ra rn rc R _ hn1 hn6 (HRr.out.keep ho5) o6).mono ?_; clear hgd; rintro en w6 ⟨rfl, ho6'⟩; have ho6 : Only (fun _ => False) V w6 := ho5.trans ho6'; clear ho6') | (go_at_call 40; refine (expr_hand2 n la ln lc L _ hn1 hn6 (HL.out.keep ((Only.refl (fun _ => False) V).drew)) o3).mono ?_; rintro en w5 ⟨rfl, ho5'⟩; have ho5 : Only (fun _ => False) V w5 := ((Only.refl (fun _ => False) V).drew).trans ho5'; clear ho5')))
              go_wp2_with fail
              go_roundg (10 - (q + 1))
              case measure => omega
              case rel => exact ⟨q + 1, _, rfl, rfl, by omega, by omega, by rw [HZ5.out, HZ.out, Hd.ru, HY.out], by go_num, HOv.out.trans ho6⟩
            · have t4 : (q : Int) < (nR : Int) := by omega
              have t5 : ¬ (q : Int) < 10 := by omega
              have t6 : decide ((q : Int) < 10) = false := decide_eq_false t5
              have HTX : Hid (Z = Hd.text n 0 af T rs) := by
                show Z = _
                have hqm : q = min rs.length 10 := by have := HRW.out.1; omega
                rw [HZ.out, HX.out, HMIN.out, hqm]
                unfold Hd.text Hd.second
                rw [if_pos rfl]
              go_wp2_with fail
              go_ret
              exact ⟨(by show Ending.returned (Value.string (bs Z)) = _; rw [HTX.out]), HOw.out⟩
          · have t4 : ¬ (q : Int) < (nR : Int) := by omega
            have t6 : decide ((q : Int) < (nR : Int)) = false := decide_eq_false t4
            have HTX : Hid (Z = Hd.text n 0 af T rs) := by
              show Z = _
              have hqm : q = min rs.length 10 := by have := HRW.out.1; omega
              rw [HZ.out, HX.out, HMIN.out, hqm]
              unfold Hd.text Hd.second
              rw [if_pos rfl]
            go_wp2_with fail
            go_ret
            exact ⟨(by show Ending.returned (Value.string (bs Z)) = _; rw [HTX.out]), HOw.out⟩
    · have hmin : k = min T.length n := by have := HTW.out.1; omega
      have t2 : ¬ (k : Int) < (nT : Int) := by omega
      have t3 : decide ((k : Int) < (nT : Int)) = false := decide_eq_false t2
      have HMIN : Hid (k = min T.length n) := hmin
      clear hTW hmin e1 s1 e2 sN sm1 mNl hm1
      go_wp2_with fail
      obtain ⟨W2, hW2⟩ : ∃ W2, W2 = W.alloc (.cells #[.string ⟨#[107, 101, 101, 112, 32]⟩, .string ⟨#[109, 97, 121, 32]⟩, .string ⟨#[109, 117, 115, 116, 32]⟩] 9) := ⟨_, rfl⟩
      have HW2 : Hid (W2 = W.alloc (.cells #[.string ⟨#[107, 101, 101, 112, 32]⟩, .string ⟨#[109, 97, 121, 32]⟩, .string ⟨#[109, 117, 115, 116, 32]⟩] 9)) := hW2
      have HOW : Hid (Only (fun _ => False) bx W2) := by rw [hW2]; exact HOr.out.alloc _
      have HWD : Hid (W2.heap[W.heap.size]? = some (.cells #[.string ⟨#[107, 101, 101, 112, 32]⟩, .string ⟨#[109, 97, 121, 32]⟩, .string ⟨#[109, 117, 115, 116, 32]⟩] 9 (0, 0))) := by rw [hW2]; exact heap_alloc_new W _
      have lX2 : X.length ≤ 97 := by have := bs_size X; omega
      clear hW2
      go_loopg [4, 7] 10 (fun g out i wr => ∃ (q : Nat) (V : World), V = wr ∧ g = 10 - q ∧ q ≤ 10 ∧ q ≤ nR ∧ out = .string (bs (Hd.ru n rs X q)) ∧ i = .int .i64 (q : Int) ∧ Only (fun _ => False) W2 V)
      case atStart => exact ⟨0, _, rfl, rfl, by omega, by omega, rfl, rfl, by rw [HW2.out]; exact Only.refl _ _⟩
      case round =>
        obtain ⟨q, V, hV, rfl, hq, hqR, rfl, rfl, hOv⟩ := hrel
        subst hV
        have HOv : Hid (Only (fun _ => False) W2 V) := hOv
        have hOb : Only (fun _ => False) bx V := HOW.out.trans hOv
        have HP4 : Hid (Pbx V w.heap.size c 0 af aT nT cT aR nR cR) := HP0.out.keep hOb
        have HOw : Hid (Only (fun _ => False) w V) := ((Only.refl (fun _ => False) w).alloc _).trans (HBX.out ▸ hOb)
        have HRW : Hid (Rw V aR nR rs) := HR.out.keep HOw.out
        have d4 := HP4.out.c4
        obtain ⟨Z, hZ⟩ : ∃ Z, Z = Hd.ru n rs X q := ⟨_, rfl⟩
        have HZ : Hid (Z = Hd.ru n rs X q) := hZ
        have lZ : Z.length ≤ 97 + 874 * q := by rw [hZ]; have := (Hd.ru_len n rs X hn6 q).1; omega
        rw [← hZ]
        obtain ⟨mZ, sZ, lmZ⟩ := sz Z
        have hmZ : mZ ≤ 9000 := by omega
        clear hZ lZ lmZ hOb hOv
        by_cases hlt2 : q < nR
        · by_cases hlq : q < 10
          · obtain ⟨hl, b, off, h1, h2⟩ := HRW.out
            obtain ⟨ha, hb⟩ := h1 (by omega)
            obtain ⟨y, hy⟩ : ∃ y, rs[q]? = some y := ⟨rs[q]'(by omega), List.getElem?_eq_getElem _⟩
            have HY : Hid (rs[q]? = some y) := hy
            obtain ⟨o, c0, c1, c2⟩ := h2 q y hy
            clear hy h1 h2 hl
            obtain ⟨yd, la, ln, lc, L, ra, rn, rc, R⟩ := y
            obtain ⟨o1, o2, o3, o4, o5, o6, o7⟩ := o
            dsimp only at o1 o2 o3 o4 o5 o6 o7 c0 c1 c2
            have HL : Hid (Bw V la ln L) := o2
            have HRr : Hid (Bw V ra rn R) := o5
            clear o2 o5 o4 o7
            obtain ⟨e, he⟩ : ∃ e, e = yd % 3 := ⟨_, rfl⟩
            have hme : (yd : Int) % 3 = (e : Int) := by omega
            have he3 : e < 3 := by omega
            have HE3 : Hid (e = yd % 3) := he
            have hKp : ∀ w' : World, Only (fun _ => False) V w' → (w'.cell? ⟨w.heap.size, 4, none⟩ = some (.slice (some ⟨b, off, none⟩) nR cR) ∧ w'.cell? ⟨b, off + q * 3, none⟩ = some (.int .u8 (yd : Int)) ∧ w'.cell? ⟨b, off + q * 3 + 1, none⟩ = some (.slice la ln lc) ∧ w'.cell? ⟨b, off + q * 3 + 2, none⟩ = some (.slice ra rn rc) ∧ w'.cell? ⟨W.heap.size, ((yd : Int) % 3).toNat, none⟩ = some (.string (bs (Hd.word yd)))) := fun w' ho => by
              have hblk := ho.block b hb (fun h => h)
              refine ⟨by rw [← ha]; exact (HP4.out.keep ho).c4, (World.cell?_of_block (a := ⟨b, off + q * 3, none⟩) hblk).trans c0, (World.cell?_of_block (a := ⟨b, off + q * 3 + 1, none⟩) hblk).trans c1, (World.cell?_of_block (a := ⟨b, off + q * 3 + 2, none⟩) hblk).trans c2, ?_⟩
              have hg : w'.heap[W.heap.size]? = some (.cells #[.string ⟨#[107, 101, 101, 112, 32]⟩, .string ⟨#[109, 97, 121, 32]⟩, .string ⟨#[109, 117, 115, 116, 32]⟩] 9 (0, 0)) := ((HOv.out.trans ho).block _ (Array.getElem?_eq_some_iff.1 HWD.out).1 (fun h => h)).trans HWD.out
              rw [show ((yd : Int) % 3).toNat = e by omega, cell_of_row _ _ _ _ _ _ hg]
              unfold Hd.word
              rw [← HE3.out]
              rcases (show e = 0 ∨ e = 1 ∨ e = 2 by omega) with r | r | r
              · subst r; rfl
              · subst r; rfl
              · subst r; rfl
            have HKp : Hid (∀ w' : World, Only (fun _ => False) V w' → (w'.cell? ⟨w.heap.size, 4, none⟩ = some (.slice (some ⟨b, off, none⟩) nR cR) ∧ w'.cell? ⟨b, off + q * 3, none⟩ = some (.int .u8 (yd : Int)) ∧ w'.cell? ⟨b, off + q * 3 + 1, none⟩ = some (.slice la ln lc) ∧ w'.cell? ⟨b, off + q * 3 + 2, none⟩ = some (.slice ra rn rc) ∧ w'.cell? ⟨W.heap.size, ((yd : Int) % 3).toNat, none⟩ = some (.string (bs (Hd.word yd))))) := hKp
            clear hKp c0 c1 c2 he
            have hE : e = 0 ∨ e = 1 ∨ e = 2 := by omega
            have t4 : (q : Int) < (nR : Int) := by omega
            have t5 : (q : Int) < 10 := by omega
            have htm : (yd : Int).tmod 3 = (yd : Int) % 3 := Int.tmod_eq_emod_of_nonneg (by omega)
            have t6 : (0 : Int) ≤ (yd : Int) % 3 := by omega
            have t7 : (yd : Int) % 3 < 3 := by omega
            have hwe : IntKind.u8.wrap ((yd : Int) % 3) = (yd : Int) % 3 := by simp only [IntKind.wrap]; first | omega | (simp; omega) | (unfold IntKind.bits; simp; omega)
            obtain ⟨mW, sW, lW⟩ := sz (Hd.word yd)
            obtain ⟨mL, sL, lL⟩ := sz (Hd.expr n L)
            obtain ⟨mR, sR, lR⟩ := sz (Hd.expr n R)
            have hW5 := (Hd.word_len yd).1
            have hL4 := Hd.expr_len n L hn6
            have hR4 := Hd.expr_len n R hn6
            have f1 : bs Z ++ bs (Hd.word yd) = bs (Hd.cat Z (Hd.word yd)) := bs_cat _ _
            obtain ⟨Z1, hZ1⟩ : ∃ Zz, Zz = Hd.cat Z (Hd.word yd) := ⟨_, rfl⟩
            rw [← hZ1] at f1
            have f2 : bs Z1 ++ bs (Hd.expr n L) = bs (Hd.cat Z1 (Hd.expr n L)) := bs_cat _ _
            obtain ⟨Z2, hZ2⟩ : ∃ Zz, Zz = Hd.cat Z1 (Hd.expr n L) := ⟨_, rfl⟩
            rw [← hZ2] at f2
            have f3 : bs Z2 ++ (⟨#[32, 47, 32]⟩ : ByteArray) = bs (Hd.cat Z2 [32, 47, 32]) := catR _ _
            obtain ⟨Z3, hZ3⟩ : ∃ Zz, Zz = Hd.cat Z2 [32, 47, 32] := ⟨_, rfl⟩
            rw [← hZ3] at f3
            have f4 : bs Z3 ++ bs (Hd.expr n R) = bs (Hd.cat Z3 (Hd.expr n R)) := bs_cat _ _
            obtain ⟨Z4, hZ4⟩ : ∃ Zz, Zz = Hd.cat Z3 (Hd.expr n R) := ⟨_, rfl⟩
            rw [← hZ4] at f4
            have f5 : bs Z4 ++ (⟨#[59, 10]⟩ : ByteArray) = bs (Hd.cat Z4 [59, 10]) := catR _ _
            obtain ⟨Z5, hZ5⟩ : ∃ Zz, Zz = Hd.cat Z4 [59, 10] := ⟨_, rfl⟩
            rw [← hZ5] at f5
            have HZ5 : Hid (Z5 = Hd.cat (Hd.cat (Hd.cat (Hd.cat (Hd.cat Z (Hd.word yd)) (Hd.expr n L)) [32, 47, 32]) (Hd.expr n R)) [59, 10]) := by show Z5 = _; rw [hZ5, hZ4, hZ3, hZ2, hZ1]
            obtain ⟨n1, r1, l1⟩ := sz Z1
            obtain ⟨n2, r2, l2⟩ := sz Z2
            obtain ⟨n3, r3, l3⟩ := sz Z3
            obtain ⟨n4, r4, l4⟩ := sz Z4
            have b1 : n1 = mZ + mW := by rw [l1, hZ1, Hd.cat_len, lW]; have := bs_size Z; omega
            have b2 : n2 = n1 + mL := by rw [l2, hZ2, Hd.cat_len, lL, l1]
            have b3 : n3 = n2 + 3 := by rw [l3, hZ3, Hd.cat_len, l2]; rfl
            have b4 : n4 = n3 + mR := by rw [l4, hZ4, Hd.cat_len, lR, l3]
            have g1 : n1 ≤ 20000 := by omega
            have g2 : n2 ≤ 20000 := by omega
            have g3 : n3 ≤ 20000 := by omega
            have g4 : n4 ≤ 20000 := by omega
            have gW : mW ≤ 5 := by omega
            have gL : mL ≤ 432 := by omega
            have gR : mR ≤ 432 := by omega
            clear b1 b2 b3 b4 l1 l2 l3 l4 lW lL lR hZ1 hZ2 hZ3 hZ4 hZ5 hW5 hL4 hR4
            have z3 : (⟨#[32, 47, 32]⟩ : ByteArray).size = 3 := rfl
            have z2 : (⟨#[59, 10]⟩ : ByteArray).size = 2 := rfl
            have p1 : (9223372036854775807 < mZ + mW) = False := eq_false (by omega)
            have p2 : (9223372036854775807 < n1 + mL) = False := eq_false (by omega)
            have p3 : (9223372036854775807 < n2 + 3) = False := eq_false (by omega)
            have p3' : (9223372036854775804 < n2) = False := eq_false (by omega)
            have p4 : (9223372036854775807 < n3 + mR) = False := eq_false (by omega)
            have p5 : (9223372036854775807 < n4 + 2) = False := eq_false (by omega)
            have p5' : (9223372036854775805 < n4) = False := eq_false (by omega)
            subst ha
            clear he3 hme hE
            go_wp2_with fail
            go_region_held3 (fun w' => w'.cell? ⟨w.heap.size, 4, none⟩ = some (.slice (some ⟨b, off, none⟩) nR cR) ∧ w'.cell? ⟨b, off + q * 3, none⟩ = some (.int .u8 (yd : Int)) ∧ w'.cell? ⟨b, off + q * 3 + 1, none⟩ = some (.slice la ln lc) ∧ w'.cell? ⟨b, off + q * 3 + 2, none⟩ = some (.slice ra rn rc) ∧ w'.cell? ⟨W.heap.size, ((yd : Int) % 3).toNat, none⟩ = some (.string (bs (Hd.word yd)))) ((first | exact HKp.out _ ((Only.refl (fun _ => False) V).drew) | exact HKp.out _ ho6 | exact HKp.out _ ho5)) ((first | (go_at_call 40; have hgd := ho5; refine (expr_hand2 n ra rn rc R _ hn1 hn6 (HRr.out.keep ho5) o6).mono ?_; clear hgd; rintro en w6 ⟨rfl, ho6'⟩; have ho6 : Only (fun _ => False) V w6 := ho5.trans ho6'; clear ho6') | (go_at_call 40; refine (expr_hand2 n la ln lc L _ hn1 hn6 (HL.out.keep ((Only.refl (fun _ => False) V).drew)) o3).mono ?_; rintro en w5 ⟨rfl, ho5'⟩; have ho5 : Only (fun _ => False) V w5 := ((Only.refl (fun _ => False) V).drew).trans ho5'; clear ho5')))
            go_wp2_with fail
            go_roundg (10 - (q + 1))
            case measure => omega
            case rel => exact ⟨q + 1, _, rfl, rfl, by omega, by omega, by rw [HZ5.out, HZ.out, Hd.ru, HY.out], by go_num, HOv.out.trans ho6⟩
          · have t4 : (q : Int) < (nR : Int) := by omega
            have t5 : ¬ (q : Int) < 10 := by omega
            have t6 : decide ((q : Int) < 10) = false := decide_eq_false t5
            have HTX : Hid (Z = Hd.text n 0 af T rs) := by
              show Z = _
              have hqm : q = min rs.length 10 := by have := HRW.out.1; omega
              rw [HZ.out, HX.out, HMIN.out, hqm]
              unfold Hd.text Hd.second
              rw [if_pos rfl]
            go_wp2_with fail
            go_ret
            exact ⟨(by show Ending.returned (Value.string (bs Z)) = _; rw [HTX.out]), HOw.out⟩
        · have t4 : ¬ (q : Int) < (nR : Int) := by omega
          have t6 : decide ((q : Int) < (nR : Int)) = false := decide_eq_false t4
          have HTX : Hid (Z = Hd.text n 0 af T rs) := by
            show Z = _
            have hqm : q = min rs.length 10 := by have := HRW.out.1; omega
            rw [HZ.out, HX.out, HMIN.out, hqm]
            unfold Hd.text Hd.second
            rw [if_pos rfl]
          go_wp2_with fail
          go_ret
          exact ⟨(by show Ending.returned (Value.string (bs Z)) = _; rw [HTX.out]), HOw.out⟩
end Go.Proofs.Ytfbcijnacbfjpaa
