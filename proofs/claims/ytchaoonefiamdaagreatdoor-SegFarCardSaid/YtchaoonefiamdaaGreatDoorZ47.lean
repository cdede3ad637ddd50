/- Sg18 Sg19 Sg20 Sg21 -/
import Derived.Test.YtchaoonefiamdaaGreatDoorZ46
namespace Go.Proofs.YtchaoonefiamdaaGreatDoor
open Go.RowKit Go.Maps
set_option linter.unusedVariables false
set_option linter.unusedSimpArgs false
open Rl (Ex)
def inS (t c:Int):Bool:=decide (0≤c∧c < 32∧t / 2 ^ c.toNat % 2=1)
def ruleOf (t:Int × Int × Int):Rl.Rule:=⟨t.1,.mk 1 t.2.1 [],.mk 1 t.2.2 []⟩
def fs:List (Int × Int × Int)→Int→Int→Int
  | [],_,_=>1
  | t :: rest,a,b=>if inS t.2.1 a=true∧inS t.2.2 b=true then t.1 else fs rest a b
theorem hit_inS {Q:List Int} {t:Int} {i:Nat} {a:Int} (ha:Q[i]?=some a):Au.hit Q t i↔inS t a=true:=by
  unfold Au.hit Au.hitB inS
  rw [ha]
theorem says_rule {Q:List Int} {i:Nat} (h0:0 < i) (hi:i < Q.length) {a b:Int} (ha:Q[i - 1]?=some a) (hb:Q[i]?=some b) (t:Int × Int × Int):says Q i (ruleOf t)↔inS t.2.1 a=true∧inS t.2.2 b=true:=by
  rw [says_set hi (r:=ruleOf t) (t:=t.2.2) rfl,hit_inS hb]
  have e:=set_ends Q t.2.1 i (by omega)
  have e2:(Q.take i)[i - 1]?=some a:=by rw [List.getElem?_take,if_pos (by omega)];exact ha
  constructor
  · rintro ⟨h1,h2⟩
    exact ⟨(hit_inS e2).1 (e.1 h1).2,h2⟩
  · rintro ⟨h1,h2⟩
    exact ⟨e.2 ⟨h0,(hit_inS e2).2 h1⟩,h2⟩
theorem first1_fs {Q:List Int} {i:Nat} (h0:0 < i) (hi:i < Q.length) {a b:Int} (ha:Q[i - 1]?=some a) (hb:Q[i]?=some b):∀ (tr:List (Int × Int × Int)) (v:Int),first1 (tr.map ruleOf) Q i v→v=fs tr a b
  | [],v,h=>by
    rcases h with ⟨k,r,hk,_⟩ | ⟨_,h⟩
    · simp at hk
    · exact h
  | t :: rest,v,h=>by
    rw [fs]
    split
    · rename_i hs
      have hsay:=(says_rule h0 hi ha hb t).2 hs
      rcases h with ⟨k,r,hk,h1,h2,h3⟩ | ⟨h1,h2⟩
      · cases k with
        | zero =>
          rw [List.map_cons,List.getElem?_cons_zero] at hk
          injection hk with hk
          rw [h2,← hk]
          rfl
        | succ k=>exact absurd hsay (h3 0 (ruleOf t) (by omega) rfl)
      · exact absurd hsay (h1 _ (by simp))
    · rename_i hs
      have hsay:¬ says Q i (ruleOf t):=fun h=>hs ((says_rule h0 hi ha hb t).1 h)
      refine first1_fs h0 hi ha hb rest v ?_
      rcases h with ⟨k,r,hk,h1,h2,h3⟩ | ⟨h1,h2⟩
      · cases k with
        | zero =>
          rw [List.map_cons,List.getElem?_cons_zero] at hk
          injection hk with hk
          rw [← hk] at h1
          exact absurd h1 hsay
        | succ k =>
          rw [List.map_cons,List.getElem?_cons_succ] at hk
          exact Or.inl ⟨k,r,hk,h1,h2,fun j r' hj hr'=>h3 (j+1) r' (by omega) (by rw [List.map_cons,List.getElem?_cons_succ];exact hr')⟩
      · exact Or.inr ⟨fun r hr=>h1 r (by rw [List.map_cons];exact List.mem_cons_of_mem _ hr),h2⟩
def tx1:Rl.Str:=[99,108,97,115,115,32,65,32,66,59,32,107,101,101,112,32,65,32,47,32,66,59]
def tx2:Rl.Str:=[99,108,97,115,115,32,88,32,74,59,32,106,111,105,110,32,74,32,47,32,88,59]
def ru1:Rl.St:=⟨[[65],[66]],[0,1],0,0,[([65],1),([66],2)],2,[ruleOf (0,1,2)]⟩
def ru2:Rl.St:=⟨[[88],[74]],[0,1],2,1,[([88],1),([74],2)],0,[]⟩
set_option maxRecDepth 100000 in
theorem plain1:Rl.plain tx1=.ok ru1:=by kernel_rfl
set_option maxRecDepth 100000 in
theorem plain2:Rl.plain tx2=.ok ru2:=by kernel_rfl
theorem mkL1:Au.make (ru1.list.map (·.left)) ((2:Nat):Int)=.ok ([[1,0],[1,0]],[0,1]):=by kernel_rfl
theorem mkR1:Au.make (ru1.list.map (·.right)) ((2:Nat):Int)=.ok ([[0,1],[0,1]],[0,1]):=by kernel_rfl
theorem mkL2:Au.make (ru2.list.map (·.left)) ((2:Nat):Int)=.ok ([[0,0]],[0]):=by kernel_rfl
theorem mkR2:Au.make (ru2.list.map (·.right)) ((2:Nat):Int)=.ok ([[0,0]],[0]):=by kernel_rfl
theorem read1 (w:World):Calls Tryz.prog 6 #[.string ⟨tx1.toArray⟩] w fun e w'=>∃ mb,e=.returned (.tuple #[.pointer (some ⟨mb,0,none⟩),.agg #[.int .i64 0,.int .i64 0]])∧Mac w' (w.heap.size+1) mb ru1 2 1 [[1,0],[1,0]] [0,1] [[0,1],[0,1]] [0,1]∧Only (fun _=>False) w w':=by
  refine segRead_any _ ru1 2 1 _ _ _ _ w (rdw plain1 (by decide)) rfl rfl (by decide) (fun r hr=>?_) (fun r hr=>?_) (fun r hr=>?_) mkL1 mkR1
  · have:=(rd_small (rdw plain1 (by decide))).2 r hr
    refine ⟨this.1,this.2,?_⟩
    simp [ru1] at hr
    subst hr
    simp [ruleOf,Sok,Soks]
  · simp [ru1] at hr
    subst hr
    exact ⟨1,2,rfl⟩
  · simp [ru1] at hr
    subst hr
    simp [ruleOf,Au.dp,Au.dps]
theorem read2 (w:World):Calls Tryz.prog 6 #[.string ⟨tx2.toArray⟩] w fun e w'=>∃ mb,e=.returned (.tuple #[.pointer (some ⟨mb,0,none⟩),.agg #[.int .i64 0,.int .i64 0]])∧Mac w' (w.heap.size+1) mb ru2 2 0 [[0,0]] [0] [[0,0]] [0]∧Only (fun _=>False) w w' :=
  segRead_any _ ru2 2 0 _ _ _ _ w (rdw plain2 (by decide)) rfl rfl (by decide) (fun r hr=>by simp [ru2] at hr) (fun r hr=>by simp [ru2] at hr) (fun r hr=>by simp [ru2] at hr) mkL2 mkR2
theorem three {B:List Int} (h:B.length=3):∃ a b c,B=[a,b,c]:=by
  match B,h with
  | [a,b,c],_=>exact ⟨a,b,c,rfl⟩
theorem run1 (lo mb g:Nat) (w:World) (hm:Mac w lo mb ru1 2 1 [[1,0],[1,0]] [0,1] [[0,1],[0,1]] [0,1]) (hC:Iw w (some ⟨g,0,none⟩) 3 [0,1,0]) (hT:Tz w):Calls Tryz.prog 7 #[.pointer (some ⟨mb,0,none⟩),.slice (some ⟨g,0,none⟩) 3 3] w fun e w'=>∃ g,e=.returned (.slice (some ⟨g,0,none⟩) 4 4)∧Ub w' g [0,0,1,2]∧Only (fun _=>False) w w':=by
  refine (macRun_any ru1 2 1 _ _ _ _ lo mb (some ⟨g,0,none⟩) 3 3 [0,1,0] w hm mkL1 mkR1 rfl (by decide) rfl (by decide) (by decide) (by decide) hC (by decide) hT).mono ?_
  rintro e w' ⟨g,B,h1,_,h2,h3,h4,h5⟩
  have eP:al ru1.join ru1.after ((2:Nat):Int) [0,1,0] 0 false=[0,1,2]:=by decide
  have eQ:rowOf ru1 2 [0,1,0]=[0,1,0]:=by decide
  rw [eP] at h2 h3
  rw [eQ] at h4
  obtain ⟨a,b,c,rfl⟩:=three h3
  have hb:b=0:=first1_fs (Q:=[0,1,0]) (i:=1) (by decide) (by decide) (a:=0) (b:=1) rfl rfl [(0,1,2)] b (h4 1 b rfl)
  have hc:c=1:=first1_fs (Q:=[0,1,0]) (i:=2) (by decide) (by decide) (a:=1) (b:=0) rfl rfl [(0,1,2)] c (h4 2 c rfl)
  subst hb
  subst hc
  exact ⟨g,h1,h2,h5⟩
theorem run2 (lo mb g:Nat) (w:World) (hm:Mac w lo mb ru2 2 0 [[0,0]] [0] [[0,0]] [0]) (hC:Iw w (some ⟨g,0,none⟩) 5 [1,0,1,1,0]) (hT:Tz w):Calls Tryz.prog 7 #[.pointer (some ⟨mb,0,none⟩),.slice (some ⟨g,0,none⟩) 5 5] w fun e w'=>∃ g,e=.returned (.slice (some ⟨g,0,none⟩) 6 6)∧Ub w' g [0,1,0,0,1,2]∧Only (fun _=>False) w w':=by
  refine (macRun_any ru2 2 0 _ _ _ _ lo mb (some ⟨g,0,none⟩) 5 5 [1,0,1,1,0] w hm mkL2 mkR2 rfl (by decide) rfl (by decide) (by decide) (by decide) hC (by decide) hT).mono ?_
  rintro e w' ⟨g,B,h1,_,h2,h3,h4,h5⟩
  have eP:al ru2.join ru2.after ((2:Nat):Int) [1,0,1,1,0] 0 false=[0,1,4]:=by decide
  rw [eP] at h2 h3
  obtain ⟨a,b,c,rfl⟩:=three h3
  have all1:∀ (i:Nat) (v:Int),[a,b,c][i]?=some v→v=1:=fun i v hv=>by
    rcases h4 i v hv with ⟨k,r,hk,_⟩ | ⟨_,h⟩
    · simp [ru2] at hk
    · exact h
  have hb:=all1 1 b rfl
  have hc:=all1 2 c rfl
  subst hb
  subst hc
  exact ⟨g,h1,h2,h5⟩
end Go.Proofs.YtchaoonefiamdaaGreatDoor
namespace Go.Proofs.YtchaoonefiamdaaGreatDoor
open Go.RowKit Go.Maps
set_option linter.unusedVariables false
set_option linter.unusedSimpArgs false
set_option maxRecDepth 100000 in
set_option maxHeartbeats 8000000 in
theorem awake6_any (w:World) (hT:Tz w):Calls Tryz.prog 5 #[] w fun e w'=>e=.returned (.bool true)∧Only (fun _=>False) w w':=by
  have HR1:Hid (∀ W,Calls Tryz.prog 6 #[.string { data:=#[99,108,97,115,115,32,65,32,66,59,32,107,101,101,112,32,65,32,47,32,66,59] }] W fun e w'=>∃ mb,e=.returned (.tuple #[.pointer (some ⟨mb,0,none⟩),.agg #[.int .i64 0,.int .i64 0]])∧Mac w' (W.heap.size+1) mb ru1 2 1 [[1,0],[1,0]] [0,1] [[0,1],[0,1]] [0,1]∧Only (fun _=>False) W w'):=fun W=>read1 W
  have HR2:Hid (∀ W,Calls Tryz.prog 6 #[.string { data:=#[99,108,97,115,115,32,88,32,74,59,32,106,111,105,110,32,74,32,47,32,88,59] }] W fun e w'=>∃ mb,e=.returned (.tuple #[.pointer (some ⟨mb,0,none⟩),.agg #[.int .i64 0,.int .i64 0]])∧Mac w' (W.heap.size+1) mb ru2 2 0 [[0,0]] [0] [[0,0]] [0]∧Only (fun _=>False) W w'):=fun W=>read2 W
  have HT:Hid (Tz w):=hT
  clear hT
  go_enter Tryz.func5,Tryz.ntmps5
  go_wp2_with fail
  refine Calls.mono (HR1.out _) ?_
  rintro e w1 ⟨m1,rfl,hm1,ho1⟩
  have H1:Hid (Mac w1 (w.heap.size+1) m1 ru1 2 1 [[1,0],[1,0]] [0,1] [[0,1],[0,1]] [0,1]∧Only (fun _=>False) w w1):=⟨hm1,ho1⟩
  clear hm1 ho1
  go_upto_region 2 with fail
  obtain ⟨f1,hf1⟩:∃ x,x=w1.heap.size:=⟨_,rfl⟩
  obtain ⟨w2,hw2⟩:∃ x,x=w1.alloc (.cells #[.int .i64 0,.int .i64 0] 32):=⟨_,rfl⟩
  have H2:Hid (w2.heap[f1]?=some (.cells #[.int .i64 0,.int .i64 0] 32 (0,0))∧Only (fun _=>False) w1 w2):=by rw [hw2,hf1];exact ⟨heap_alloc_new _ _,(Only.refl _ _).alloc _⟩
  rw [← hw2,← hf1]
  clear hw2 hf1
  go_wp2_with fail
  refine Calls.mono (HR2.out _) ?_
  rintro e w3 ⟨m2,rfl,hm2,ho3⟩
  have H3:Hid (Mac w3 (w2.heap.size+1) m2 ru2 2 0 [[0,0]] [0] [[0,0]] [0]∧Only (fun _=>False) w2 w3):=⟨hm2,ho3⟩
  clear hm2 ho3
  go_upto_region 3 with fail
  obtain ⟨f2,hf2⟩:∃ x,x=w3.heap.size:=⟨_,rfl⟩
  obtain ⟨w4,hw4⟩:∃ x,x=w3.alloc (.cells #[.int .i64 0,.int .i64 0] 32):=⟨_,rfl⟩
  have H4:Hid (w4.heap[f2]?=some (.cells #[.int .i64 0,.int .i64 0] 32 (0,0))∧Only (fun _=>False) w3 w4):=by rw [hw4,hf2];exact ⟨heap_alloc_new _ _,(Only.refl _ _).alloc _⟩
  rw [← hw4,← hf2]
  clear hw4 hf2
  have H24:Hid (Only (fun _=>False) w2 w4∧Only (fun _=>False) w w4):=by
    have h:=H3.out.2.trans H4.out.2
    exact ⟨h,H1.out.2.trans (H2.out.2.trans h)⟩
  have hq1:w4.heap[f1]?=some (.cells #[.int .i64 0,.int .i64 0] 32 (0,0)):=(H24.out.1.block f1 (Array.getElem?_eq_some_iff.1 H2.out.1).1 (fun h=>h)).trans H2.out.1
  have hq2:=H4.out.1
  have c0:w4.cell? ⟨f1,0,none⟩=some (.int .i64 0):=cell_blk hq1
  have c1:w4.cell? ⟨f2,0,none⟩=some (.int .i64 0):=cell_blk hq2
  have l1:f1 < w4.heap.size:=(Array.getElem?_eq_some_iff.1 hq1).1
  have l2:f2 < w4.heap.size:=(Array.getElem?_eq_some_iff.1 hq2).1
  clear hq1 hq2
  go_upto_region 5 with fail
  go_wp2_with fail
  obtain ⟨r1,hr1⟩:∃ x,x=w4.heap.size:=⟨_,rfl⟩
  obtain ⟨w5,hw5⟩:∃ x,x=w4.alloc (.cells #[.int .i64 0,.int .i64 1,.int .i64 0] 3):=⟨_,rfl⟩
  have H5:Hid (Ib w5 r1 [0,1,0]∧Only (fun _=>False) w4 w5∧Only (fun _=>False) w w5):=by rw [hw5,hr1];exact ⟨heap_alloc_new w4 _,(Only.refl _ _).alloc _,H24.out.2.alloc _⟩
  rw [← hw5,← hr1]
  clear hw5 hr1 c0 c1 l1 l2
  refine Calls.mono (run1 _ _ r1 _ (H1.out.1.keep (H2.out.2.trans (H24.out.1.trans H5.out.2.1))) H5.out.1.iw (HT.out.keep H5.out.2.2)) ?_
  rintro e w6 ⟨g1,rfl,hg1,ho6⟩
  have H6:Hid (Ub w6 g1 [0,0,1,2]∧Only (fun _=>False) w4 w6∧Only (fun _=>False) w w6):=⟨hg1,H5.out.2.1.trans ho6,H5.out.2.2.trans ho6⟩
  clear hg1 ho6
  go_wp2_with fail
  obtain ⟨r2,hr2⟩:∃ x,x=w6.heap.size:=⟨_,rfl⟩
  obtain ⟨w7,hw7⟩:∃ x,x=w6.alloc (.cells #[.int .u8 0,.int .u8 0,.int .u8 1,.int .u8 2] 25):=⟨_,rfl⟩
  have H7:Hid (Ub w7 r2 [0,0,1,2]∧Only (fun _=>False) w6 w7):=by rw [hw7,hr2];exact ⟨heap_alloc_new w6 _,(Only.refl _ _).alloc _⟩
  rw [← hw7,← hr2]
  clear hw7 hr2
  refine Calls.mono (sameOpps_any g1 r2 4 4 4 4 [0,0,1,2] [0,0,1,2] _ (H6.out.1.keep0 H7.out.2) H7.out.1 rfl rfl (by decide) (by decide)) ?_
  rintro e w8 ⟨rfl,ho8⟩
  have H8:Hid (Only (fun _=>False) w4 w8∧Only (fun _=>False) w w8):=⟨H6.out.2.1.trans (H7.out.2.trans ho8),H6.out.2.2.trans (H7.out.2.trans ho8)⟩
  clear ho8
  rw [show decide (([0,0,1,2]:List Int)=[0,0,1,2])=true by decide]
  go_wp2_with fail
  obtain ⟨r3,hr3⟩:∃ x,x=w8.heap.size:=⟨_,rfl⟩
  obtain ⟨w9,hw9⟩:∃ x,x=w8.alloc (.cells #[.int .i64 1,.int .i64 0,.int .i64 1,.int .i64 1,.int .i64 0] 3):=⟨_,rfl⟩
  have H9:Hid (Ib w9 r3 [1,0,1,1,0]∧Only (fun _=>False) w4 w9∧Only (fun _=>False) w w9):=by rw [hw9,hr3];exact ⟨heap_alloc_new w8 _,H8.out.1.alloc _,H8.out.2.alloc _⟩
  rw [← hw9,← hr3]
  clear hw9 hr3
  refine Calls.mono (run2 _ _ r3 _ (H3.out.1.keep (H4.out.2.trans H9.out.2.1)) H9.out.1.iw (HT.out.keep H9.out.2.2)) ?_
  rintro e wa ⟨g2,rfl,hg2,hoa⟩
  have HA:Hid (Ub wa g2 [0,1,0,0,1,2]∧Only (fun _=>False) w wa):=⟨hg2,H9.out.2.2.trans hoa⟩
  clear hg2 hoa
  go_wp2_with fail
  obtain ⟨r4,hr4⟩:∃ x,x=wa.heap.size:=⟨_,rfl⟩
  obtain ⟨wb,hwb⟩:∃ x,x=wa.alloc (.cells #[.int .u8 0,.int .u8 1,.int .u8 0,.int .u8 0,.int .u8 1,.int .u8 2] 25):=⟨_,rfl⟩
  have HB:Hid (Ub wb r4 [0,1,0,0,1,2]∧Only (fun _=>False) wa wb):=by rw [hwb,hr4];exact ⟨heap_alloc_new wa _,(Only.refl _ _).alloc _⟩
  rw [← hwb,← hr4]
  clear hwb hr4
  refine Calls.mono (sameOpps_any g2 r4 6 6 6 6 [0,1,0,0,1,2] [0,1,0,0,1,2] _ (HA.out.1.keep0 HB.out.2) HB.out.1 rfl rfl (by decide) (by decide)) ?_
  rintro e wc ⟨rfl,hoc⟩
  have HC:Hid (Only (fun _=>False) w wc):=HA.out.2.trans (HB.out.2.trans hoc)
  clear hoc
  rw [show decide (([0,1,0,0,1,2]:List Int)=[0,1,0,0,1,2])=true by decide]
  go_wp2_with fail
  go_ret
  exact ⟨rfl,HC.out⟩
end Go.Proofs.YtchaoonefiamdaaGreatDoor
namespace Go.Proofs.YtchaoonefiamdaaGreatDoor
open Go.RowKit Go.Maps
set_option linter.unusedVariables false
set_option linter.unusedSimpArgs false
open Rl (Ex)
def exA:Ex:=.mk 1 1 []
def lefK (k:Nat):Ex:=if k=1 then exA else .mk 2 0 (List.replicate k exA)
def asK:Nat→Rl.Str
  | 0=>[]
  | k+1=>65 :: 32 :: asK k
def txF (k:Nat):Rl.Str:=[99,108,97,115,115,32,65,32,66,59,32,107,101,101,112,32]++asK k++[47,32,66,59,32,109,117,115,116,32,46,32,47,32,46,59]
def ruF (k:Nat):Rl.St:=⟨[[65],[66]],[0,1],0,0,[([65],1),([66],2)],k+3,[⟨0,lefK k,.mk 1 2 []⟩,ruleOf (2,3,3)]⟩
def okE (r:Except Nat (List (List Nat) × List Nat)):Bool:=match r with | .ok _=>true | .error _=>false
theorem okE_some {r:Except Nat (List (List Nat) × List Nat)} (h:okE r=true):∃ n o,r=.ok (n,o):=by
  match r,h with
  | .ok (n,o),_=>exact ⟨n,o,rfl⟩
theorem one_five {k:Nat} (h1:1≤k) (h5:k≤5):k=1∨k=2∨k=3∨k=4∨k=5:=by omega
set_option maxRecDepth 100000 in
theorem plainF {k:Nat} (h1:1≤k) (h5:k≤5):Rl.plain (txF k)=.ok (ruF k):=by
  rcases one_five h1 h5 with rfl | rfl | rfl | rfl | rfl
  · kernel_rfl
  · kernel_rfl
  · kernel_rfl
  · kernel_rfl
  · kernel_rfl
theorem makeF {k:Nat} (h1:1≤k) (h5:k≤5):∃ n o,Au.make ((ruF k).list.map (·.left)) ((2:Nat):Int)=.ok (n,o):=by
  apply okE_some
  rcases one_five h1 h5 with rfl | rfl | rfl | rfl | rfl
  · kernel_rfl
  · kernel_rfl
  · kernel_rfl
  · kernel_rfl
  · kernel_rfl
theorem makeR (k:Nat):Au.make ((ruF k).list.map (·.right)) ((2:Nat):Int)=.ok ([[1,2],[1,2],[1,2]],[0,2,3]):=by
  show Au.make [.mk 1 2 [],.mk 1 3 []] ((2:Nat):Int)=_
  kernel_rfl
theorem lefK_small {k:Nat} (h1:1≤k) (h5:k≤5):Sok (lefK k)∧Au.dp (lefK k)≤1000000:=by
  rcases one_five h1 h5 with rfl | rfl | rfl | rfl | rfl <;> simp [lefK,exA,Sok,Soks,Au.dp,Au.dps,List.replicate]
theorem readF {k:Nat} (h1:1≤k) (h5:k≤5):∃ nL oL,Au.make ((ruF k).list.map (·.left)) ((2:Nat):Int)=.ok (nL,oL)∧∀ w:World,Calls Tryz.prog 6 #[.string ⟨(txF k).toArray⟩] w fun e w'=>∃ mb,e=.returned (.tuple #[.pointer (some ⟨mb,0,none⟩),.agg #[.int .i64 0,.int .i64 0]])∧Mac w' (w.heap.size+1) mb (ruF k) 2 2 nL oL [[1,2],[1,2],[1,2]] [0,2,3]∧Only (fun _=>False) w w':=by
  obtain ⟨nL,oL,hm⟩:=makeF h1 h5
  have hlen:(txF k).length≤4096:=by rcases one_five h1 h5 with rfl | rfl | rfl | rfl | rfl <;> decide
  obtain ⟨hs1,hs2⟩:=lefK_small h1 h5
  refine ⟨nL,oL,hm,fun w=>segRead_any _ (ruF k) 2 2 _ _ _ _ w (rdw (plainF h1 h5) hlen) rfl rfl (by decide) (fun r hr=>?_) (fun r hr=>?_) (fun r hr=>?_) hm (makeR k)⟩
  · have:=(rd_small (rdw (plainF h1 h5) hlen)).2 r hr
    refine ⟨this.1,this.2,?_⟩
    simp [ruF] at hr
    rcases hr with rfl | rfl
    · exact ⟨hs1,by simp [Sok,Soks]⟩
    · simp [ruleOf,Sok,Soks]
  · simp [ruF] at hr
    rcases hr with rfl | rfl
    · exact ⟨1,2,rfl⟩
    · exact ⟨1,3,rfl⟩
  · simp [ruF] at hr
    rcases hr with rfl | rfl
    · exact ⟨hs2,by simp [Au.dp,Au.dps]⟩
    · simp [ruleOf,Au.dp,Au.dps]
theorem hitA {D:List Int} {p:Nat}:Au.hit D 1 p↔D[p]?=some 0:=by
  rw [Au.hit_iff]
  constructor
  · rintro ⟨c,h1,h2,h3,h4⟩
    obtain ⟨n,rfl⟩:∃ n:Nat,c=(n:Int):=⟨c.toNat,by omega⟩
    rw [Int.toNat_natCast] at h4
    cases n with
    | zero=>exact h1
    | succ n =>
      exfalso
      have h5:(1:Int) / 2 ^ (n+1)=0:=Int.ediv_eq_zero_of_lt (by decide) (by
        have:(1:Nat) < 2 ^ (n+1):=Nat.one_lt_two_pow (by omega)
        exact_mod_cast this)
      rw [h5] at h4
      simp at h4
  · intro h
    exact ⟨0,h,by decide,by decide,by decide⟩
theorem mtsA (D:List Int):∀ (k a j:Nat),Au.mts D (List.replicate k exA) a j↔j=a+k∧∀ q,q < k→D[a+q]?=some 0
  | 0,a,j=>by
    rw [List.replicate_zero,Au.mts]
    constructor
    · intro h;exact ⟨by omega,fun q hq=>absurd hq (Nat.not_lt_zero _)⟩
    · rintro ⟨h,_⟩;omega
  | k+1,a,j=>by
    rw [List.replicate_succ,Au.mts]
    constructor
    · rintro ⟨m,h1,h2⟩
      obtain ⟨rfl,h3⟩:=(mt_set D 1 a m).1 h1
      obtain ⟨h4,h5⟩:=(mtsA D k (a+1) j).1 h2
      refine ⟨by omega,fun q hq=>?_⟩
      cases q with
      | zero=>exact hitA.1 h3
      | succ q=>have:=h5 q (by omega);rw [show a+(q+1)=a+1+q by omega];exact this
    · rintro ⟨h1,h2⟩
      refine ⟨a+1,(mt_set D 1 a (a+1)).2 ⟨rfl,hitA.2 (h2 0 (by omega))⟩,(mtsA D k (a+1) j).2 ⟨by omega,fun q hq=>?_⟩⟩
      have:=h2 (q+1) (by omega)
      rw [show a+1+q=a+(q+1) by omega]
      exact this
theorem lefK_mt (D:List Int) (k a j:Nat) (h1:1≤k):Au.mt D (lefK k) a j↔j=a+k∧∀ q,q < k→D[a+q]?=some 0:=by
  unfold lefK
  split
  · rename_i hk
    subst hk
    rw [← mtsA D 1 a j]
    show _↔Au.mts D [exA] a j
    rw [Au.mts]
    constructor
    · intro h;exact ⟨j,h,by rw [Au.mts]⟩
    · rintro ⟨m,h2,h3⟩
      rw [Au.mts] at h3
      rw [← h3]
      exact h2
  · rw [← mtsA D k a j]
    unfold Au.mt
    rw [if_neg (by decide),if_pos rfl]
def run0 (C:List Int):Nat→Nat
  | 0=>0
  | i+1=>if C[i]?=some 0 then run0 C i+1 else 0
theorem run0_le (C:List Int):∀ i,run0 C i≤i
  | 0=>Nat.le_refl _
  | i+1=>by
    rw [run0]
    have:=run0_le C i
    split <;> omega
theorem run0_iff (C:List Int):∀ (i k:Nat),k≤run0 C i↔k≤i∧∀ q,q < k→C[i - k+q]?=some 0
  | 0,k=>by
    rw [run0]
    constructor
    · intro h;exact ⟨h,fun q hq=>by omega⟩
    · exact fun h=>h.1
  | i+1,0=>by simp
  | i+1,k+1=>by
    rw [run0]
    by_cases hc:C[i]?=some 0
    · rw [if_pos hc]
      have ih:=run0_iff C i k
      constructor
      · intro h
        obtain ⟨h2,h3⟩:=ih.1 (by omega)
        refine ⟨by omega,fun q hq=>?_⟩
        by_cases hqk:q=k
        · subst hqk
          rw [show i+1 - (q+1)+q=i by omega]
          exact hc
        · have:=h3 q (by omega)
          rw [show i+1 - (k+1)+q=i - k+q by omega]
          exact this
      · rintro ⟨h2,h3⟩
        have:=ih.2 ⟨by omega,fun q hq=>by have:=h3 q (by omega);rw [show i+1 - (k+1)+q=i - k+q by omega] at this;exact this⟩
        omega
    · rw [if_neg hc]
      constructor
      · intro h;omega
      · rintro ⟨h2,h3⟩
        have:=h3 k (by omega)
        rw [show i+1 - (k+1)+k=i by omega] at this
        exact absurd this hc
theorem lefK_ends (C:List Int) (i k:Nat) (hi:i≤C.length) (h1:1≤k):(∃ a,Au.mt (C.take i) (lefK k) a (C.take i).length)↔k≤run0 C i:=by
  have hl:(C.take i).length=i:=by rw [List.length_take];omega
  rw [hl,run0_iff]
  constructor
  · rintro ⟨a,h⟩
    obtain ⟨h2,h3⟩:=(lefK_mt _ k a i h1).1 h
    refine ⟨by omega,fun q hq=>?_⟩
    have:=h3 q hq
    rw [List.getElem?_take,if_pos (by omega)] at this
    rw [show i - k+q=a+q by omega]
    exact this
  · rintro ⟨h2,h3⟩
    refine ⟨i - k,(lefK_mt _ k (i - k) i h1).2 ⟨by omega,fun q hq=>?_⟩⟩
    rw [List.getElem?_take,if_pos (by omega)]
    exact h3 q hq
theorem far_says {C:List Int} {i k:Nat} (h0:0 < i) (hi:i < C.length) (h1:1≤k) (hC:∀ c∈C,c=0∨c=1) {v:Int} (h:first1 (ruF k).list C i v):v=if C[i]?=some 1∧k≤run0 C i then 0 else 2:=by
  obtain ⟨a,ha⟩:∃ a,C[i - 1]?=some a:=⟨_,List.getElem?_eq_getElem (by omega)⟩
  obtain ⟨b,hb⟩:∃ b,C[i]?=some b:=⟨_,List.getElem?_eq_getElem hi⟩
  have hA:=hC a (List.mem_of_getElem? ha)
  have hB:=hC b (List.mem_of_getElem? hb)
  have s1:says C i ⟨0,lefK k,.mk 1 2 []⟩↔(C[i]?=some 1∧k≤run0 C i):=by
    rw [says_set hi (r:=⟨0,lefK k,.mk 1 2 []⟩) (t:=2) rfl,hit_inS hb,lefK_ends C i k (by omega) h1,hb]
    rcases hB with rfl | rfl
    · simp [inS]
    · simp [inS]
  have s2:says C i (ruleOf (2,3,3)):=by
    rw [says_rule h0 hi ha hb]
    rcases hA with rfl | rfl <;> rcases hB with rfl | rfl <;> decide
  by_cases hc:C[i]?=some 1∧k≤run0 C i
  · rw [if_pos hc]
    have hs:=s1.2 hc
    rcases h with ⟨j,r,hj,q1,q2,q3⟩ | ⟨q1,_⟩
    · cases j with
      | zero =>
        simp [ruF] at hj
        rw [q2,← hj]
      | succ j=>exact absurd hs (q3 0 _ (by omega) rfl)
    · exact absurd hs (q1 _ (by simp [ruF]))
  · rw [if_neg hc]
    have hs:¬ says C i ⟨0,lefK k,.mk 1 2 []⟩:=fun h=>hc (s1.1 h)
    rcases h with ⟨j,r,hj,q1,q2,q3⟩ | ⟨q1,_⟩
    · match j,hj with
      | 0,hj =>
        simp [ruF] at hj
        rw [← hj] at q1
        exact absurd q1 hs
      | 1,hj =>
        simp [ruF] at hj
        rw [q2,← hj]
        rfl
      | j+2,hj=>simp [ruF] at hj
    · exact absurd s2 (q1 _ (by simp [ruF]))
end Go.Proofs.YtchaoonefiamdaaGreatDoor
namespace Go.Proofs.YtchaoonefiamdaaGreatDoor
open Go.RowKit Go.Maps
set_option linter.unusedVariables false
set_option linter.unusedSimpArgs false
open Rl (Ex)
theorem rowOf_id (s:Rl.St) (cl:Nat) (C:List Int) (hj:s.join=0) (ht:s.treat=(List.range cl).map (fun (q:Nat)=>(q:Int))) (hC:∀ c∈C,0≤c∧c < (cl:Int)):rowOf s cl C=C:=by
  have hT:s.treat.map (fun x=>clO x cl)=(List.range cl).map (fun (q:Nat)=>(q:Int)):=by
    rw [ht,List.map_map]
    apply List.map_congr_left
    intro q hq
    have:=List.mem_range.1 hq
    show clO ((q:Nat):Int) cl=_
    exact clO_self (by omega) (by omega)
  unfold rowOf
  rw [hT,hj,al_all,List.map_map]
  apply List.ext_getElem?
  intro i
  rw [List.getElem?_map]
  by_cases hi:i < C.length
  · rw [List.getElem?_range hi]
    obtain ⟨c,hc⟩:∃ c,C[i]?=some c:=⟨_,List.getElem?_eq_getElem hi⟩
    have h1:=hC c (List.mem_of_getElem? hc)
    rw [hc]
    show some (tk1 _ C ((0+i:Nat):Int))=_
    unfold tk1
    rw [Nat.zero_add,Int.toNat_natCast,hc,Option.getD_some,List.length_map,List.length_range,clO_self h1.1 h1.2,List.getElem?_map,List.getElem?_range (by omega)]
    show some ((c.toNat:Nat):Int)=_
    rw [Int.toNat_of_nonneg h1.1]
  · rw [List.getElem?_eq_none (by rw [List.length_range];omega),List.getElem?_eq_none (by omega)]
    rfl
theorem plainRun_any (s:Rl.St) (cl n:Nat) (nL:List (List Nat)) (oL:List Nat) (nR:List (List Nat)) (oR:List Nat) (lo mb:Nat) (aC:Option Addr) (nC cC:Nat) (C:List Int) (w:World)
    (hm:Mac w lo mb s cl n nL oL nR oR) (hL:Au.make (s.list.map (·.left)) (cl:Int)=.ok (nL,oL)) (hR:Au.make (s.list.map (·.right)) (cl:Int)=.ok (nR,oR)) (hn:n=s.list.length) (hn9:n≤9) (h0:0 < cl) (hj:s.join=0) (ha:0≤s.after∧s.after < 4294967296) (ht:s.treat=(List.range cl).map (fun (q:Nat)=>(q:Int))) (hin:∀ c∈C,0≤c∧c < (cl:Int))
    (hC:Iw w aC nC C) (hnC:nC≤999) (hT:Tz w) :
    Calls Tryz.prog 7 #[.pointer (some ⟨mb,0,none⟩),.slice aC nC cC] w fun e w'=>∃ g O,e=.returned (.slice (some ⟨g,0,none⟩) (nC+1) (nC+1))∧Ub w' g O∧O.length=nC+1∧(∀ i v,0 < i→i < nC→O[i]?=some v→first1 s.list C i v)∧(0 < nC→O[0]?=some 0)∧O[nC]?=some 2∧Only (fun _=>False) w w':=by
  refine (macRun_any s cl n nL oL nR oR lo mb aC nC cC C w hm hL hR hn hn9 (by rw [ht,List.length_map,List.length_range]) h0 (by rw [hj];decide) ha hC hnC hT).mono ?_
  rintro e w' ⟨g,B,h1,_,h2,h3,h4,h5⟩
  rw [rowOf_id s cl C hj ht hin] at h4
  rw [hj,al_all,List.length_map,List.length_range,hC.1] at h2 h3
  have hat:=rn_all (List.replicate nC 0++[2]) B nC (by simp) h3 nC (Nat.le_refl _)
  refine ⟨g,_,h1,h2,by rw [rn_len];simp,fun i v hi hi2 hv=>h4 i v (by rw [hat,if_pos ⟨hi,hi2⟩] at hv;exact hv),fun hp=>?_,?_,h5⟩
  · rw [hat,if_neg (by omega),List.getElem?_append_left (by simpa using hp),List.getElem?_replicate,if_pos hp]
  · rw [hat,if_neg (by omega),List.getElem?_append_right (by simp)]
    simp
theorem farRun_any {k:Nat} (h1:1≤k) (h5:k≤5) (nL:List (List Nat)) (oL:List Nat) (hL:Au.make ((ruF k).list.map (·.left)) ((2:Nat):Int)=.ok (nL,oL)) (lo mb:Nat) (aC:Option Addr) (nC cC:Nat) (C:List Int) (w:World) (hm:Mac w lo mb (ruF k) 2 2 nL oL [[1,2],[1,2],[1,2]] [0,2,3]) (hin:∀ c∈C,c=0∨c=1) (hC:Iw w aC nC C) (hnC:nC≤999) (hT:Tz w) :
    Calls Tryz.prog 7 #[.pointer (some ⟨mb,0,none⟩),.slice aC nC cC] w fun e w'=>∃ g O,e=.returned (.slice (some ⟨g,0,none⟩) (nC+1) (nC+1))∧Ub w' g O∧(∀ i,0 < i→i < nC→O[i]?=some (if C[i]?=some 1∧k≤run0 C i then 0 else 2))∧Only (fun _=>False) w w':=by
  refine (plainRun_any (ruF k) 2 2 nL oL _ _ lo mb aC nC cC C w hm hL (makeR k) rfl (by decide) (by decide) rfl (by show (0:Int)≤0∧(0:Int) < 4294967296;decide) rfl (fun c hc=>by rcases hin c hc with rfl | rfl <;> decide) hC hnC hT).mono ?_
  rintro e w' ⟨g,O,q1,q2,q3,q4,_,_,q5⟩
  refine ⟨g,O,q1,q2,fun i hi hi2=>?_,q5⟩
  obtain ⟨v,hv⟩:∃ v,O[i]?=some v:=⟨_,List.getElem?_eq_getElem (by omega)⟩
  rw [hv,far_says hi (by rw [hC.1];exact hi2) h1 hin (q4 i v hi hi2 hv)]
theorem asK_snoc:∀ k,asK k++[65,32]=asK (k+1)
  | 0=>rfl
  | k+1=>by
    show 65 :: 32 :: (asK k++[65,32])=_
    rw [asK_snoc k]
    rfl
def txB (k:Nat):Rl.Str:=[99,108,97,115,115,32,65,32,66,59,32,107,101,101,112,32]++asK k
theorem txB_step (k:Nat) (S:ByteArray) (h:S=⟨(txB k).toArray⟩):S++⟨#[65,32]⟩=⟨(txB (k+1)).toArray⟩:=by
  subst h
  apply ByteArray.ext
  rw [ByteArray.data_append]
  show (txB k).toArray++#[65,32]=(txB (k+1)).toArray
  unfold txB
  rw [← asK_snoc k,← List.append_assoc]
  simp
theorem txB_end (k:Nat) (S:ByteArray) (h:S=⟨(txB k).toArray⟩):S++⟨#[47,32,66,59,32,109,117,115,116,32,46,32,47,32,46,59]⟩=⟨(txF k).toArray⟩:=by
  subst h
  apply ByteArray.ext
  rw [ByteArray.data_append]
  show (txB k).toArray++_=(txF k).toArray
  unfold txB txF
  simp
end Go.Proofs.YtchaoonefiamdaaGreatDoor
