/-
  RulesSets: its walk, the whole.
-/
import Derived.Test.YtahoepmnekconabSw
namespace Go.Proofs.Ytahoepmnekconab
open Go.RowKit Go.Maps
set_option linter.unusedVariables false
set_option linter.unusedSimpArgs false
set_option maxRecDepth 100000 in
set_option maxHeartbeats 4000000 in
theorem sets_walk_true (a b : Nat) (w : World) (ha : a ≤ 255) (hb : b ≤ 255) :
    Calls Try.prog 3 #[.int .u8 (a : Int), .int .u8 (b : Int), .bool true] w fun e w' => e = .returned (.bool true) ∧ Only (fun _ => False) w w' := by
  have a6 := and_6 ha
  have b6 := and_6 hb
  have HU : Hid (Rl.uv a b true = bits .andNot .u32 63 (bits .or .u32 (Rl.sv a) (Rl.sv b))) := (or_6 a b).2 true
  have HTV : Hid (Rl.tv a b = bits .or .u32 (Rl.sv a) (Rl.sv b)) := (or_6 a b).1
  have hl1 := Hd.names_len 6 a 6
  have hl2 := Hd.names_len 6 b 6
  obtain ⟨na, hna⟩ : ∃ na, na = Hd.names 6 a 6 := ⟨_, rfl⟩
  obtain ⟨nb, hnb⟩ : ∃ nb, nb = Hd.names 6 b 6 := ⟨_, rfl⟩
  obtain ⟨t1, ht1⟩ : ∃ t1, t1 = Rl.c1 ++ na := ⟨_, rfl⟩
  obtain ⟨t2, ht2⟩ : ∃ t2, t2 = t1 ++ Rl.c2 := ⟨_, rfl⟩
  obtain ⟨t3, ht3⟩ : ∃ t3, t3 = t2 ++ nb := ⟨_, rfl⟩
  obtain ⟨t4, ht4⟩ : ∃ t4, t4 = t3 ++ Rl.c3 := ⟨_, rfl⟩
  obtain ⟨t5, ht5⟩ : ∃ t5, t5 = t4 ++ Rl.sg true := ⟨_, rfl⟩
  obtain ⟨t6, ht6⟩ : ∃ t6, t6 = t5 ++ Rl.c4 := ⟨_, rfl⟩
  have HT6 : Hid (t6 = Rl.stext a b true) := by
    show _ = _
    rw [ht6, ht5, ht4, ht3, ht2, ht1, hna, hnb]
    rfl
  have hS1 : (⟨#[99, 108, 97, 115, 115, 32, 65, 32, 66, 32, 67, 32, 68, 32, 69, 32, 70, 59, 32, 115, 101, 116, 32, 83, 32, 61]⟩ : ByteArray) ++ bs na = bs t1 := by rw [ht1]; exact bs_lit Rl.c1 na
  have hS2 : bs t1 ++ (⟨#[59, 32, 115, 101, 116, 32, 84, 32, 61]⟩ : ByteArray) = bs t2 := by rw [ht2]; exact bs_app' t1 Rl.c2
  have hS3 : bs t2 ++ bs nb = bs t3 := by rw [ht3]; exact bs_app t2 nb
  have hS4 : bs t3 ++ (⟨#[32, 83, 59, 32, 107, 101, 101, 112, 32, 91]⟩ : ByteArray) = bs t4 := by rw [ht4]; exact bs_app' t3 Rl.c3
  have hS5 : bs t4 ++ (⟨#[94]⟩ : ByteArray) = bs t5 := by rw [ht5]; exact bs_app' t4 (Rl.sg true)
  have hS6 : bs t5 ++ (⟨#[32, 83, 32, 84, 93, 32, 47, 32, 84, 59, 32, 109, 97, 121, 32, 83, 32, 47, 32, 46, 32, 59]⟩ : ByteArray) = bs t6 := by rw [ht6]; exact bs_app' t5 Rl.c4
  rw [← hna] at hl1
  rw [← hnb] at hl2
  have z0 : (bs na).size = na.length := bs_size na
  have z00 : (bs nb).size = nb.length := bs_size nb
  obtain ⟨m1, z1, q1⟩ := sz t1
  obtain ⟨m2, z2, q2⟩ := sz t2
  obtain ⟨m3, z3, q3⟩ := sz t3
  obtain ⟨m4, z4, q4⟩ := sz t4
  obtain ⟨m5, z5, q5⟩ := sz t5
  have q1' : m1 = 26 + na.length := by rw [q1, ht1, List.length_append]; rfl
  have q2' : m2 = m1 + 9 := by rw [q2, ht2, List.length_append, q1]; rfl
  have q3' : m3 = m2 + nb.length := by rw [q3, ht3, List.length_append, q2]
  have q4' : m4 = m3 + 10 := by rw [q4, ht4, List.length_append, q3]; rfl
  have q5' : m5 ≤ m4 + 1 := by rw [q5, ht5, List.length_append, q4]; exact Nat.add_le_add_left (by decide) _
  have HNA : Hid (na = Hd.names 6 a 6) := hna
  have HNB : Hid (nb = Hd.names 6 b 6) := hnb
  have la : na.length ≤ 12 := hl1
  have lb : nb.length ≤ 12 := hl2
  obtain ⟨l1, hl1e⟩ : ∃ l1, na.length = l1 := ⟨_, rfl⟩
  obtain ⟨l2, hl2e⟩ : ∃ l2, nb.length = l2 := ⟨_, rfl⟩
  rw [hl1e] at z0 q1' la
  rw [hl2e] at z00 q3' lb
  have m1b : m1 ≤ 200 := by omega
  have m2b : m2 ≤ 200 := by omega
  have m3b : m3 ≤ 200 := by omega
  have m4b : m4 ≤ 200 := by omega
  have m5b : m5 ≤ 200 := by omega
  clear ht1 ht2 ht3 ht4 ht5 ht6 hna hnb q1 q2 q3 q4 q5 q1' q2' q3' q4' q5' hl1 hl2 hl1e hl2e
  go_enter Try.func3, Try.ntmps3
  go_wp2_with (first | (go_at_call 4; refine (awake_any _).mono ?_; rintro e w1 ⟨rfl, ho1⟩; have HO1 : Hid (Only (fun _ => False) w w1) := ho1; clear ho1) | (go_at_call 5; have hgd := HO2.out; clear hgd; have hcc := nc_any b w2 hb; rw [← HNB.out] at hcc; refine hcc.mono ?_; clear hcc; rintro e w3 ⟨rfl, ho3⟩; have HO3 : Hid (Only (fun _ => False) w w3) := HO2.out.trans ho3; clear ho3) | (go_at_call 5; have hcc := nc_any a w1 ha; rw [← HNA.out] at hcc; refine hcc.mono ?_; clear hcc; rintro e w2 ⟨rfl, ho2⟩; have HO2 : Hid (Only (fun _ => False) w w2) := HO1.out.trans ho2; clear ho2) | (go_at_call 6; have hcc := parse_sets a b true w3; rw [← HT6.out, HU.out, HTV.out] at hcc; refine hcc.mono ?_; clear hcc; rintro e w4 ⟨aC, nC, cC, jn, an, aT, nT, cT, g, cL, rfl, ⟨hg, y1, y2, y5, y9, y12⟩, ho4⟩; have HO4 : Hid (Only (fun _ => False) w w4) := HO3.out.trans ho4; clear ho4; have hg' : g < w4.heap.size + 1 := (by omega)))
  go_ret
  exact ⟨rfl, (HO4.out.alloc _).alloc _⟩
set_option maxRecDepth 100000 in
set_option maxHeartbeats 4000000 in
theorem sets_walk_false (a b : Nat) (w : World) (ha : a ≤ 255) (hb : b ≤ 255) :
    Calls Try.prog 3 #[.int .u8 (a : Int), .int .u8 (b : Int), .bool false] w fun e w' => e = .returned (.bool true) ∧ Only (fun _ => False) w w' := by
  have a6 := and_6 ha
  have b6 := and_6 hb
  have HU : Hid (Rl.uv a b false = bits .or .u32 (Rl.sv a) (Rl.sv b)) := (or_6 a b).2 false
  have HTV : Hid (Rl.tv a b = bits .or .u32 (Rl.sv a) (Rl.sv b)) := (or_6 a b).1
  have hl1 := Hd.names_len 6 a 6
  have hl2 := Hd.names_len 6 b 6
  obtain ⟨na, hna⟩ : ∃ na, na = Hd.names 6 a 6 := ⟨_, rfl⟩
  obtain ⟨nb, hnb⟩ : ∃ nb, nb = Hd.names 6 b 6 := ⟨_, rfl⟩
  obtain ⟨t1, ht1⟩ : ∃ t1, t1 = Rl.c1 ++ na := ⟨_, rfl⟩
  obtain ⟨t2, ht2⟩ : ∃ t2, t2 = t1 ++ Rl.c2 := ⟨_, rfl⟩
  obtain ⟨t3, ht3⟩ : ∃ t3, t3 = t2 ++ nb := ⟨_, rfl⟩
  obtain ⟨t4, ht4⟩ : ∃ t4, t4 = t3 ++ Rl.c3 := ⟨_, rfl⟩
  obtain ⟨t5, ht5⟩ : ∃ t5, t5 = t4 ++ Rl.sg false := ⟨_, rfl⟩
  obtain ⟨t6, ht6⟩ : ∃ t6, t6 = t5 ++ Rl.c4 := ⟨_, rfl⟩
  have HT6 : Hid (t6 = Rl.stext a b false) := by
    show _ = _
    rw [ht6, ht5, ht4, ht3, ht2, ht1, hna, hnb]
    rfl
  have hS1 : (⟨#[99, 108, 97, 115, 115, 32, 65, 32, 66, 32, 67, 32, 68, 32, 69, 32, 70, 59, 32, 115, 101, 116, 32, 83, 32, 61]⟩ : ByteArray) ++ bs na = bs t1 := by rw [ht1]; exact bs_lit Rl.c1 na
  have hS2 : bs t1 ++ (⟨#[59, 32, 115, 101, 116, 32, 84, 32, 61]⟩ : ByteArray) = bs t2 := by rw [ht2]; exact bs_app' t1 Rl.c2
  have hS3 : bs t2 ++ bs nb = bs t3 := by rw [ht3]; exact bs_app t2 nb
  have hS4 : bs t3 ++ (⟨#[32, 83, 59, 32, 107, 101, 101, 112, 32, 91]⟩ : ByteArray) = bs t4 := by rw [ht4]; exact bs_app' t3 Rl.c3
  have hS5 : bs t4 ++ (⟨#[]⟩ : ByteArray) = bs t5 := by rw [ht5]; exact bs_app' t4 (Rl.sg false)
  have hS6 : bs t5 ++ (⟨#[32, 83, 32, 84, 93, 32, 47, 32, 84, 59, 32, 109, 97, 121, 32, 83, 32, 47, 32, 46, 32, 59]⟩ : ByteArray) = bs t6 := by rw [ht6]; exact bs_app' t5 Rl.c4
  rw [← hna] at hl1
  rw [← hnb] at hl2
  have z0 : (bs na).size = na.length := bs_size na
  have z00 : (bs nb).size = nb.length := bs_size nb
  obtain ⟨m1, z1, q1⟩ := sz t1
  obtain ⟨m2, z2, q2⟩ := sz t2
  obtain ⟨m3, z3, q3⟩ := sz t3
  obtain ⟨m4, z4, q4⟩ := sz t4
  obtain ⟨m5, z5, q5⟩ := sz t5
  have q1' : m1 = 26 + na.length := by rw [q1, ht1, List.length_append]; rfl
  have q2' : m2 = m1 + 9 := by rw [q2, ht2, List.length_append, q1]; rfl
  have q3' : m3 = m2 + nb.length := by rw [q3, ht3, List.length_append, q2]
  have q4' : m4 = m3 + 10 := by rw [q4, ht4, List.length_append, q3]; rfl
  have q5' : m5 ≤ m4 + 1 := by rw [q5, ht5, List.length_append, q4]; exact Nat.add_le_add_left (by decide) _
  have HNA : Hid (na = Hd.names 6 a 6) := hna
  have HNB : Hid (nb = Hd.names 6 b 6) := hnb
  have la : na.length ≤ 12 := hl1
  have lb : nb.length ≤ 12 := hl2
  obtain ⟨l1, hl1e⟩ : ∃ l1, na.length = l1 := ⟨_, rfl⟩
  obtain ⟨l2, hl2e⟩ : ∃ l2, nb.length = l2 := ⟨_, rfl⟩
  rw [hl1e] at z0 q1' la
  rw [hl2e] at z00 q3' lb
  have m1b : m1 ≤ 200 := by omega
  have m2b : m2 ≤ 200 := by omega
  have m3b : m3 ≤ 200 := by omega
  have m4b : m4 ≤ 200 := by omega
  have m5b : m5 ≤ 200 := by omega
  clear ht1 ht2 ht3 ht4 ht5 ht6 hna hnb q1 q2 q3 q4 q5 q1' q2' q3' q4' q5' hl1 hl2 hl1e hl2e
  go_enter Try.func3, Try.ntmps3
  go_wp2_with (first | (go_at_call 4; refine (awake_any _).mono ?_; rintro e w1 ⟨rfl, ho1⟩; have HO1 : Hid (Only (fun _ => False) w w1) := ho1; clear ho1) | (go_at_call 5; have hgd := HO2.out; clear hgd; have hcc := nc_any b w2 hb; rw [← HNB.out] at hcc; refine hcc.mono ?_; clear hcc; rintro e w3 ⟨rfl, ho3⟩; have HO3 : Hid (Only (fun _ => False) w w3) := HO2.out.trans ho3; clear ho3) | (go_at_call 5; have hcc := nc_any a w1 ha; rw [← HNA.out] at hcc; refine hcc.mono ?_; clear hcc; rintro e w2 ⟨rfl, ho2⟩; have HO2 : Hid (Only (fun _ => False) w w2) := HO1.out.trans ho2; clear ho2) | (go_at_call 6; have hcc := parse_sets a b false w3; rw [← HT6.out, HU.out, HTV.out] at hcc; refine hcc.mono ?_; clear hcc; rintro e w4 ⟨aC, nC, cC, jn, an, aT, nT, cT, g, cL, rfl, ⟨hg, y1, y2, y5, y9, y12⟩, ho4⟩; have HO4 : Hid (Only (fun _ => False) w w4) := HO3.out.trans ho4; clear ho4; have hg' : g < w4.heap.size + 1 := (by omega)))
  go_ret
  exact ⟨rfl, (HO4.out.alloc _).alloc _⟩
end Go.Proofs.Ytahoepmnekconab
