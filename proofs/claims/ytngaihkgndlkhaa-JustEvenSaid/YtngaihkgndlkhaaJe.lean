/-
  stanzalaw18.JustEven: its walk.
-/
import Derived.Test.YtngaihkgndlkhaaJc
import Derived.Test.YtngaihkgndlkhaaVc
namespace Go.Proofs.Ytngaihkgndlkhaa
open Go.RowKit Go.Maps Go.ChangeShapes Go.WideShapes Go.ChangeAt
set_option linter.unusedVariables false
set_option linter.unusedSimpArgs false
theorem wf_u32o {n : Int} (h : (Lit.int .u32 n).wf = true) : 0 ≤ n ∧ n ≤ 4294967295 := by
  have := range_u32 (zs := [n]) (fun m hm => by simp at hm; subst hm; exact h) 0
  simpa using this
theorem wrapN (x : Nat) (h : x ≤ 1000000000000) : IntKind.i64.wrap (x : Int) = (x : Int) := by rw [IntKind.wrap_i64]; omega
/-- what the first loop knows behind i numbers. -/
structure Ev (r g i s lo hi : Nat) : Prop where
  hs : s = r * i / g
  lo0 : i = 0 → lo = 1073741824
  lo1 : 0 < i → lo = r / g
  hi1 : hi ≤ r / g + 1
  hi2 : ∀ j, j < i → Sd.sp r g j ≤ hi
theorem Ev.next {r g i s lo hi : Nat} (h : Ev r g i s lo hi) (h0 : 0 < g) (hr : r ≤ 1048576) {s2 lo2 hi2 : Nat} (e1 : s2 = s + Sd.sp r g i) (e2 : lo2 = if Sd.sp r g i < lo then Sd.sp r g i else lo) (e3 : hi2 = if hi < Sd.sp r g i then Sd.sp r g i else hi) : Ev r g (i + 1) s2 lo2 hi2 := by
  have h2 := Sd.sp_two (r := r) h0 i
  have hq : r / g ≤ r := Nat.div_le_self _ _
  refine ⟨?_, fun h => by omega, fun _ => ?_, ?_, fun j hj => ?_⟩
  · rw [e1, h.hs, Sd.sp_add]
  · rw [e2]
    rcases Nat.eq_zero_or_pos i with z | z
    · subst z
      have e : Sd.sp r g 0 = r / g := by unfold Sd.sp; simp
      rw [e, h.lo0 rfl, if_pos (by omega)]
    · rw [h.lo1 z]
      split <;> omega
  · rw [e3]
    have := h.hi1
    split <;> omega
  · rw [e3]
    rcases Nat.lt_or_ge j i with z | z
    · have := h.hi2 j z
      split <;> omega
    · have e : j = i := by omega
      subst e
      split <;> omega
theorem Ev.to {r g i s lo hi lo' hi' : Nat} (h : Ev r g i s lo hi) (e1 : lo = lo') (e2 : hi = hi') : Ev r g i s lo' hi' := by
  subst e1 e2
  exact h
namespace justEven
set_option maxRecDepth 100000 in
set_option maxHeartbeats 4000000 in
theorem walk (roI gaI : Int) (w : World) (h0 : 0 ≤ roI ∧ roI ≤ 4294967295) (h1 : 0 ≤ gaI ∧ gaI ≤ 65535) :
    Calls Try.prog 4 #[.int .u32 roI, .int .u16 gaI] w fun e w' => e = .returned (.bool true) ∧ Only (fun _ => False) w w' := by
  obtain ⟨ro, rfl⟩ : ∃ n : Nat, roI = (n : Int) := ⟨roI.toNat, by omega⟩
  obtain ⟨ga, rfl⟩ : ∃ n : Nat, gaI = (n : Int) := ⟨gaI.toNat, by omega⟩
  obtain ⟨r, hr⟩ : ∃ x, x = ro % 1048577 := ⟨_, rfl⟩
  obtain ⟨g0, hg0⟩ : ∃ x, x = ga % 4096 := ⟨_, rfl⟩
  obtain ⟨g, hg⟩ : ∃ x, x = 1 + g0 := ⟨_, rfl⟩
  obtain ⟨g1, hg1⟩ : ∃ x, x = g + 1 := ⟨_, rfl⟩
  obtain ⟨g2, hg2⟩ : ∃ x, x = min g1 4096 := ⟨_, rfl⟩
  obtain ⟨q, hq⟩ : ∃ x, x = r / g := ⟨_, rfl⟩
  have p1 : (ro : Int).tmod 1048577 = (r : Int) := by rw [Int.tmod_eq_emod_of_nonneg (by omega)]; omega
  have p2 : (ga : Int).tmod 4096 = (g0 : Int) := by rw [Int.tmod_eq_emod_of_nonneg (by omega)]; omega
  have p3 : IntKind.i64.wrap (1 + (g0 : Int)) = (g : Int) := by rw [IntKind.wrap_i64]; omega
  have p4 : IntKind.i64.wrap (r : Int) = (r : Int) := wrapN r (by omega)
  have p5 : IntKind.i64.wrap (g0 : Int) = (g0 : Int) := wrapN g0 (by omega)
  have p6 : IntKind.i64.wrap ((g : Int) + 1) = (g1 : Int) := by rw [IntKind.wrap_i64]; omega
  have p7 : (if (4096 : Int) < (g1 : Int) then (4096 : Int) else (g1 : Int)) = (g2 : Int) := by split <;> omega
  have hr1 : r ≤ 1048576 := by omega
  have hga : 1 ≤ g := by omega
  have hgb : g ≤ 4096 := by omega
  have hgc : g ≤ g2 := by omega
  have hgd : g2 ≤ 4096 := by omega
  have hgn : ¬ g = 0 := by omega
  have p8 : (r : Int).tdiv (g : Int) = (q : Int) := by rw [Int.tdiv_eq_ediv_of_nonneg (by omega), hq]; rfl
  have hql : q ≤ r := by rw [hq]; exact Nat.div_le_self _ _
  have p9 : IntKind.i64.wrap (q : Int) = (q : Int) := wrapN q (by omega)
  have HQ : Hid (q = r / g) := hq
  have HS1 : Hid (∀ W, Calls Try.prog 10 #[.int .i64 (r : Int), .int .i64 (g : Int)] W (nlN (Sd.all r g) g W)) := fun W => spread_in r g W (by omega) (by omega) (by omega)
  have HS2 : Hid (∀ W, Calls Try.prog 10 #[.int .i64 (r : Int), .int .i64 (g2 : Int)] W (nlN (Sd.all r g2) g2 W)) := fun W => spread_in r g2 W (by omega) (by omega) (by omega)
  unfold nlN at HS1 HS2
  clear hr hg0 hg hg1 hg2 hq h0 h1
  go_enter Try.func4, Try.ntmps4
  go_wp2_with fail
  refine Calls.mono (awake18_any _) ?_
  rintro e w1 ⟨rfl, ho1⟩
  have HO1 : Hid (Only (fun _ => False) w w1) := ho1
  clear ho1
  go_wp2_with fail
  refine Calls.mono (HS1.out _) ?_
  rintro e w2 ⟨a2, c2, rfl, hown2, ho2⟩
  have HO2 : Hid (w2.ownsRow w1.heap.size 3 1 (.slice a2 g c2) g (natI (Sd.all r g)) ∧ Only (fun _ => False) w w2) := ⟨hown2, HO1.out.trans ho2⟩
  clear hown2 ho2
  go_wp2_with fail
  go_loopg [8, 9, 10, 12, 30] g (fun gh v8 v9 v10 v12 v30 wr => ∃ (i s lo hi : Nat) (W : World), W = wr ∧ gh = g - i ∧ i ≤ g ∧ v8 = .int .i64 (s : Int) ∧ v9 = .int .i64 (lo : Int) ∧ v10 = .int .i64 (hi : Int) ∧ v30 = .int .i64 (i : Int) ∧ Ev r g i s lo hi ∧ Only (fun _ => False) w2 W)
  case atStart => exact ⟨0, 0, 1073741824, 0, _, rfl, rfl, Nat.zero_le _, rfl, rfl, rfl, rfl, ⟨by simp, fun _ => rfl, fun h => absurd h (Nat.lt_irrefl 0), Nat.zero_le _, fun j h => absurd h (Nat.not_lt_zero j)⟩, Only.refl _ _⟩
  case round =>
    obtain ⟨i, s, lo, hi, W, hW, rfl, hig, rfl, rfl, rfl, rfl, hev, hoW⟩ := hrel
    subst hW
    have HG : Hid (Ev r g i s lo hi ∧ Only (fun _ => False) w2 W) := ⟨hev, hoW⟩
    have hsl : s ≤ r := by rw [hev.hs]; exact Sd.upto_le hga hig
    have hhl : hi ≤ 2000000 := by have := hev.hi1; have := HQ.out; omega
    clear hev hoW
    by_cases hlt : i < g
    · have t1 : (i : Int) < (g : Int) := by omega
      obtain ⟨x, hx⟩ : ∃ x, x = Sd.sp r g i := ⟨_, rfl⟩
      obtain ⟨b, cap, hv, hcx⟩ := natI_at (own_only HO2.out.1 HG.out.2 (fun _ _ h => h)) (Sd.all_len r g).symm (Sd.all_at hlt)
      rw [← hx] at hcx
      have e0 : a2 = some ⟨b, 0, none⟩ := by injection hv
      subst e0
      have hxl : x ≤ r := by rw [hx]; exact Sd.sp_le hga hlt
      obtain ⟨s2, hs2⟩ : ∃ y, y = s + x := ⟨_, rfl⟩
      obtain ⟨lo2, hlo2⟩ : ∃ y, y = if x < lo then x else lo := ⟨_, rfl⟩
      obtain ⟨hi2, hhi2⟩ : ∃ y, y = if hi < x then x else hi := ⟨_, rfl⟩
      have HN : Hid (Ev r g (i + 1) s2 lo2 hi2) := HG.out.1.next hga hr1 (by rw [hs2, hx]) (by rw [hlo2, hx]) (by rw [hhi2, hx])
      have m1 : IntKind.i64.wrap ((s : Int) + (x : Int)) = (s2 : Int) := by rw [IntKind.wrap_i64]; omega
      have HM : Hid ((lo2 = x ∧ x < lo ∨ lo2 = lo ∧ lo ≤ x) ∧ (hi2 = x ∧ hi < x ∨ hi2 = hi ∧ x ≤ hi)) := by
        rw [hlo2, hhi2]
        exact ⟨by split <;> omega, by split <;> omega⟩
      clear hv hx hs2 hlo2 hhi2
      go_wp2_with fail
      all_goals
        go_roundg (g - (i + 1))
        case measure => omega
        case rel => exact ⟨i + 1, s2, _, _, _, rfl, rfl, by omega, rfl, rfl, rfl, by go_num, HN.out.to (by have := HM.out; omega) (by have := HM.out; omega), HG.out.2⟩
    · have t1 : decide ((i : Int) < (g : Int)) = false := decide_eq_false (by omega)
      have hin : i = g := by omega
      have es : s = r := by rw [HG.out.1.hs, hin, Nat.mul_div_cancel _ hga]
      have el : lo = q := by rw [HG.out.1.lo1 (by omega), HQ.out]
      have HH : Hid (∀ j, j < g2 → Sd.sp r g2 j ≤ hi) := fun j hj => by
        obtain ⟨k, hk, hle⟩ := Sd.sp_more (r := r) hga hgc j
        exact Nat.le_trans hle (HG.out.1.hi2 k (by omega))
      have hh2 : q ≤ hi := by
        have := HG.out.1.hi2 0 (by omega)
        have := (Sd.sp_two (r := r) hga 0).1
        have := HQ.out
        omega
      have hh3 : hi ≤ q + 1 := by have := HG.out.1.hi1; have := HQ.out; omega
      have HO3 : Hid (Only (fun _ => False) w W) := HO2.out.2.trans HG.out.2
      subst es el
      obtain ⟨d, hd⟩ : ∃ d, d = hi - lo := ⟨_, rfl⟩
      have m1 : IntKind.i64.wrap ((hi : Int) - (lo : Int)) = (d : Int) := by rw [IntKind.wrap_i64]; omega
      have m2 : decide ((1 : Int) < (d : Int)) = false := decide_eq_false (by omega)
      have m3 : ((s : Int) != (s : Int)) = false := by simp
      have m4 : ((lo : Int) != (lo : Int)) = false := by simp
      have m5 : ((g : Int) != (g : Int)) = false := by simp
      clear hin hd HG HO2 hsl
      go_wp2_with fail
      refine Calls.mono (HS2.out _) ?_
      rintro e w4 ⟨a4, c4, rfl, hown4, ho4⟩
      have HO4 : Hid (w4.ownsRow W.heap.size 3 1 (.slice a4 g2 c4) g2 (natI (Sd.all s g2)) ∧ Only (fun _ => False) w w4) := ⟨hown4, HO3.out.trans ho4⟩
      clear hown4 ho4
      go_wp2_with fail
      go_loopg [15, 73] g2 (fun gh v15 v73 wr => ∃ (j : Nat) (V : World), V = wr ∧ gh = g2 - j ∧ j ≤ g2 ∧ v73 = .int .i64 (j : Int) ∧ Only (fun _ => False) w4 V)
      case atStart => exact ⟨0, _, rfl, rfl, Nat.zero_le _, rfl, Only.refl _ _⟩
      case round =>
        obtain ⟨j, V, hV, rfl, hj, rfl, hoV⟩ := hrel
        subst hV
        have HG : Hid (Only (fun _ => False) w4 V) := hoV
        clear hoV
        by_cases hlt : j < g2
        · have t1 : (j : Int) < (g2 : Int) := by omega
          obtain ⟨x, hx⟩ : ∃ x, x = Sd.sp s g2 j := ⟨_, rfl⟩
          obtain ⟨b, cap, hv, hcx⟩ := natI_at (own_only HO4.out.1 HG.out (fun _ _ h => h)) (Sd.all_len s g2).symm (Sd.all_at hlt)
          rw [← hx] at hcx
          have e0 : a4 = some ⟨b, 0, none⟩ := by injection hv
          subst e0
          have hxl : x ≤ hi := by rw [hx]; exact HH.out j hlt
          have t2 : decide ((hi : Int) < (x : Int)) = false := decide_eq_false (by omega)
          have t3 : decide (hi < x) = false := decide_eq_false (by omega)
          clear hv hx
          go_wp2_with fail
          go_roundg (g2 - (j + 1))
          case measure => omega
          case rel => exact ⟨j + 1, _, rfl, rfl, by omega, by go_num, HG.out⟩
        · have t1 : decide ((j : Int) < (g2 : Int)) = false := decide_eq_false (by omega)
          go_wp2_with fail
          go_ret
          exact ⟨rfl, HO4.out.2.trans HG.out⟩
end justEven
end Go.Proofs.Ytngaihkgndlkhaa
