/- Sg18 Sg19 Sg21 Sh0 -/
import Derived.Test.YtchaoonefiamdaaGreatDoorZ46
namespace Go.Proofs.YtchaoonefiamdaaGreatDoor
open Go.RowKit Go.Maps
set_option linter.unusedVariables false
set_option linter.unusedSimpArgs false
open Rl (Ex)
def inS (t c:Int):Bool:=decide (0≤c∧c < 32∧t / 2 ^ c.toNat%2=1)
def ruleOf (t:Int × Int × Int):Rl.Rule:=⟨t.1,.mk 1 t.2.1 [],.mk 1 t.2.2 []⟩
def fs:List (Int × Int × Int)→Int→Int→Int
 | [],_,_=>1
 | t::rest,a,b=>if inS t.2.1 a=true∧inS t.2.2 b=true then t.1 else fs rest a b
theorem hit_inS {Q:List Int} {t:Int} {i:Nat} {a:Int} (ha:Q[i]?=some a):Au.hit Q t i↔inS t a=true:=by
 unfold Au.hit Au.hitB inS
 rw [ha]
theorem says_rule {Q:List Int} {i:Nat} (h0:0 < i) (hi:i < Q.length) {a b:Int} (ha:Q[i-1]?=some a) (hb:Q[i]?=some b) (t:Int × Int × Int):says Q i (ruleOf t)↔inS t.2.1 a=true∧inS t.2.2 b=true:=by
 rw [says_set hi (r:=ruleOf t) (t:=t.2.2) rfl,hit_inS hb]
 have e:=set_ends Q t.2.1 i (by omega)
 have e2:(Q.take i)[i-1]?=some a:=by rw [List.getElem?_take,if_pos (by omega)];exact ha
 constructor
 ·rintro ⟨h1,h2⟩
  exact⟨(hit_inS e2).1 (e.1 h1).2,h2⟩
 ·rintro ⟨h1,h2⟩
  exact⟨e.2 ⟨h0,(hit_inS e2).2 h1⟩,h2⟩
theorem first1_fs {Q:List Int} {i:Nat} (h0:0 < i) (hi:i < Q.length) {a b:Int} (ha:Q[i-1]?=some a) (hb:Q[i]?=some b):∀ (tr:List (Int × Int × Int)) (v:Int),first1 (tr.map ruleOf) Q i v→v=fs tr a b
 | [],v,h=>by
  rcases h with ⟨k,r,hk,_⟩ | ⟨_,h⟩
  ·simp at hk
  ·exact h
 | t::rest,v,h=>by
  rw [fs]
  split
  ·rename_i hs
   have hsay:=(says_rule h0 hi ha hb t).2 hs
   rcases h with ⟨k,r,hk,h1,h2,h3⟩ | ⟨h1,h2⟩
   ·cases k with
    | zero =>
     rw [List.map_cons,List.getElem?_cons_zero] at hk
     injection hk with hk
     rw [h2,←hk]
     rfl
    | succ k=>exact absurd hsay (h3 0 (ruleOf t) (by omega) rfl)
   ·exact absurd hsay (h1 _ (by simp))
  ·rename_i hs
   have hsay:¬ says Q i (ruleOf t):=fun h=>hs ((says_rule h0 hi ha hb t).1 h)
   refine first1_fs h0 hi ha hb rest v ?_
   rcases h with ⟨k,r,hk,h1,h2,h3⟩ | ⟨h1,h2⟩
   ·cases k with
    | zero =>
     rw [List.map_cons,List.getElem?_cons_zero] at hk
     injection hk with hk
     rw [←hk] at h1
     exact absurd h1 hsay
    | succ k =>
     rw [List.map_cons,List.getElem?_cons_succ] at hk
     exact Or.inl ⟨k,r,hk,h1,h2,fun j r' hj hr'=>h3 (j+1) r' (by omega) (by rw [List.map_cons,List.getElem?_cons_succ];exact hr')⟩
   ·exact Or.inr ⟨fun r hr=>h1 r (by rw [List.map_cons];exact List.mem_cons_of_mem _ hr),h2⟩
def tx1:Rl.Str:=[99,108,97,115,115,32,65,32,66,59,32,107,101,101,112,32,65,32,47,32,66,59]
def tx2:Rl.Str:=[99,108,97,115,115,32,88,32,74,59,32,106,111,105,110,32,74,32,47,32,88,59]
def ru1:Rl.St:=⟨[[65],[66]],[0,1],0,0,[([65],1),([66],2)],2,[ruleOf (0,1,2)]⟩
def ru2:Rl.St:=⟨[[88],[74]],[0,1],2,1,[([88],1),([74],2)],0,[]⟩
set_option maxRecDepth 100000 in
theorem plain1:Rl.plain tx1=.ok ru1:=by kernel_rfl
set_option maxRecDepth 100000 in
theorem plain2:Rl.plain tx2=.ok ru2:=by kernel_rfl
theorem mkL1:Au.make (ru1.list.map (·.left)) ((2:Nat):Int)=.ok ([[1,0],[1,0]],[0,1]):=by kernel_rfl
theorem mkR1:Au.make (ru1.list.map (·.right)) ((2:Nat):Int)=.ok ([[0,1],[0,1]],[0,1]):=by kernel_rfl
theorem mkL2:Au.make (ru2.list.map (·.left)) ((2:Nat):Int)=.ok ([[0,0]],[0]):=by kernel_rfl
theorem mkR2:Au.make (ru2.list.map (·.right)) ((2:Nat):Int)=.ok ([[0,0]],[0]):=by kernel_rfl
theorem read1 (w:World):Calls Tryz.prog 6 #[.string ⟨tx1.toArray⟩] w fun e w'=>∃ mb,e=.returned (.tuple #[.pointer (some ⟨mb,0,none⟩),.agg #[.int .i64 0,.int .i64 0]])∧Mac w' (w.heap.size+1) mb ru1 2 1 [[1,0],[1,0]] [0,1] [[0,1],[0,1]] [0,1]∧Only (fun _=>False) w w':=by
 refine segRead_any _ ru1 2 1 _ _ _ _ w (rdw plain1 (by decide)) rfl rfl (by decide) (fun r hr=>?_) (fun r hr=>?_) (fun r hr=>?_) mkL1 mkR1
 ·have:=(rd_small (rdw plain1 (by decide))).2 r hr
  refine⟨this.1,this.2,?_⟩
  simp [ru1] at hr
  subst hr
  simp [ruleOf,Sok,Soks]
 ·simp [ru1] at hr
  subst hr
  exact⟨1,2,rfl⟩
 ·simp [ru1] at hr
  subst hr
  simp [ruleOf,Au.dp,Au.dps]
theorem read2 (w:World):Calls Tryz.prog 6 #[.string ⟨tx2.toArray⟩] w fun e w'=>∃ mb,e=.returned (.tuple #[.pointer (some ⟨mb,0,none⟩),.agg #[.int .i64 0,.int .i64 0]])∧Mac w' (w.heap.size+1) mb ru2 2 0 [[0,0]] [0] [[0,0]] [0]∧Only (fun _=>False) w w' :=
 segRead_any _ ru2 2 0 _ _ _ _ w (rdw plain2 (by decide)) rfl rfl (by decide) (fun r hr=>by simp [ru2] at hr) (fun r hr=>by simp [ru2] at hr) (fun r hr=>by simp [ru2] at hr) mkL2 mkR2
theorem three {B:List Int} (h:B.length=3):∃ a b c,B=[a,b,c]:=by
 match B,h with
 | [a,b,c],_=>exact⟨a,b,c,rfl⟩
theorem run1 (lo mb g:Nat) (w:World) (hm:Mac w lo mb ru1 2 1 [[1,0],[1,0]] [0,1] [[0,1],[0,1]] [0,1]) (hC:Iw w (some ⟨g,0,none⟩) 3 [0,1,0]) (hT:Tz w):Calls Tryz.prog 7 #[.pointer (some ⟨mb,0,none⟩),.slice (some ⟨g,0,none⟩) 3 3] w fun e w'=>∃ g,e=.returned (.slice (some ⟨g,0,none⟩) 4 4)∧Ub w' g [0,0,1,2]∧Only (fun _=>False) w w':=by
 refine (macRun_any ru1 2 1 _ _ _ _ lo mb (some ⟨g,0,none⟩) 3 3 [0,1,0] w hm mkL1 mkR1 rfl (by decide) rfl (by decide) (by decide) (by decide) hC (by decide) hT).mono ?_
 rintro e w' ⟨g,B,h1,_,h2,h3,h4,h5⟩
 have eP:al ru1.join ru1.after ((2:Nat):Int) [0,1,0] 0 false=[0,1,2]:=by decide
 have eQ:rowOf ru1 2 [0,1,0]=[0,1,0]:=by decide
 rw [eP] at h2 h3
 rw [eQ] at h4
 obtain⟨a,b,c,rfl⟩:=three h3
 have hb:b=0:=first1_fs (Q:=[0,1,0]) (i:=1) (by decide) (by decide) (a:=0) (b:=1) rfl rfl [(0,1,2)] b (h4 1 b rfl)
 have hc:c=1:=first1_fs (Q:=[0,1,0]) (i:=2) (by decide) (by decide) (a:=1) (b:=0) rfl rfl [(0,1,2)] c (h4 2 c rfl)
 subst hb
 subst hc
 exact⟨g,h1,h2,h5⟩
theorem run2 (lo mb g:Nat) (w:World) (hm:Mac w lo mb ru2 2 0 [[0,0]] [0] [[0,0]] [0]) (hC:Iw w (some ⟨g,0,none⟩) 5 [1,0,1,1,0]) (hT:Tz w):Calls Tryz.prog 7 #[.pointer (some ⟨mb,0,none⟩),.slice (some ⟨g,0,none⟩) 5 5] w fun e w'=>∃ g,e=.returned (.slice (some ⟨g,0,none⟩) 6 6)∧Ub w' g [0,1,0,0,1,2]∧Only (fun _=>False) w w':=by
 refine (macRun_any ru2 2 0 _ _ _ _ lo mb (some ⟨g,0,none⟩) 5 5 [1,0,1,1,0] w hm mkL2 mkR2 rfl (by decide) rfl (by decide) (by decide) (by decide) hC (by decide) hT).mono ?_
 rintro e w' ⟨g,B,h1,_,h2,h3,h4,h5⟩
 have eP:al ru2.join ru2.after ((2:Nat):Int) [1,0,1,1,0] 0 false=[0,1,4]:=by decide
 rw [eP] at h2 h3
 obtain⟨a,b,c,rfl⟩:=three h3
 have all1:∀ (i:Nat) (v:Int),[a,b,c][i]?=some v→v=1:=fun i v hv=>by
  rcases h4 i v hv with ⟨k,r,hk,_⟩ | ⟨_,h⟩
  ·simp [ru2] at hk
  ·exact h
 have hb:=all1 1 b rfl
 have hc:=all1 2 c rfl
 subst hb
 subst hc
 exact⟨g,h1,h2,h5⟩
end Go.Proofs.YtchaoonefiamdaaGreatDoor
namespace Go.Proofs.YtchaoonefiamdaaGreatDoor
open Go.RowKit Go.Maps
set_option linter.unusedVariables false
set_option linter.unusedSimpArgs false
set_option maxRecDepth 100000 in
set_option maxHeartbeats 8000000 in
theorem awake6_any (w:World) (hT:Tz w):Calls Tryz.prog 5 #[] w fun e w'=>e=.returned (.bool true)∧Only (fun _=>False) w w':=by
 have HR1:Hid (∀ W,Calls Tryz.prog 6 #[.string { data:=#[99,108,97,115,115,32,65,32,66,59,32,107,101,101,112,32,65,32,47,32,66,59] }] W fun e w'=>∃ mb,e=.returned (.tuple #[.pointer (some ⟨mb,0,none⟩),.agg #[.int .i64 0,.int .i64 0]])∧Mac w' (W.heap.size+1) mb ru1 2 1 [[1,0],[1,0]] [0,1] [[0,1],[0,1]] [0,1]∧Only (fun _=>False) W w'):=fun W=>read1 W
 have HR2:Hid (∀ W,Calls Tryz.prog 6 #[.string { data:=#[99,108,97,115,115,32,88,32,74,59,32,106,111,105,110,32,74,32,47,32,88,59] }] W fun e w'=>∃ mb,e=.returned (.tuple #[.pointer (some ⟨mb,0,none⟩),.agg #[.int .i64 0,.int .i64 0]])∧Mac w' (W.heap.size+1) mb ru2 2 0 [[0,0]] [0] [[0,0]] [0]∧Only (fun _=>False) W w'):=fun W=>read2 W
 have HT:Hid (Tz w):=hT
 clear hT
 go_enter Tryz.func5,Tryz.ntmps5
 go_wp2_with fail
 refine Calls.mono (HR1.out _) ?_
 rintro e w1 ⟨m1,rfl,hm1,ho1⟩
 have H1:Hid (Mac w1 (w.heap.size+1) m1 ru1 2 1 [[1,0],[1,0]] [0,1] [[0,1],[0,1]] [0,1]∧Only (fun _=>False) w w1):=⟨hm1,ho1⟩
 clear hm1 ho1
 go_upto_region 2 with fail
 obtain⟨f1,hf1⟩:∃ x,x=w1.heap.size:=⟨_,rfl⟩
 obtain⟨w2,hw2⟩:∃ x,x=w1.alloc (.cells #[.int .i64 0,.int .i64 0] 32):=⟨_,rfl⟩
 have H2:Hid (w2.heap[f1]?=some (.cells #[.int .i64 0,.int .i64 0] 32 (0,0))∧Only (fun _=>False) w1 w2):=by rw [hw2,hf1];exact⟨heap_alloc_new _ _,(Only.refl _ _).alloc _⟩
 rw [←hw2,←hf1]
 clear hw2 hf1
 go_wp2_with fail
 refine Calls.mono (HR2.out _) ?_
 rintro e w3 ⟨m2,rfl,hm2,ho3⟩
 have H3:Hid (Mac w3 (w2.heap.size+1) m2 ru2 2 0 [[0,0]] [0] [[0,0]] [0]∧Only (fun _=>False) w2 w3):=⟨hm2,ho3⟩
 clear hm2 ho3
 go_upto_region 3 with fail
 obtain⟨f2,hf2⟩:∃ x,x=w3.heap.size:=⟨_,rfl⟩
 obtain⟨w4,hw4⟩:∃ x,x=w3.alloc (.cells #[.int .i64 0,.int .i64 0] 32):=⟨_,rfl⟩
 have H4:Hid (w4.heap[f2]?=some (.cells #[.int .i64 0,.int .i64 0] 32 (0,0))∧Only (fun _=>False) w3 w4):=by rw [hw4,hf2];exact⟨heap_alloc_new _ _,(Only.refl _ _).alloc _⟩
 rw [←hw4,←hf2]
 clear hw4 hf2
 have H24:Hid (Only (fun _=>False) w2 w4∧Only (fun _=>False) w w4):=by
  have h:=H3.out.2.trans H4.out.2
  exact⟨h,H1.out.2.trans (H2.out.2.trans h)⟩
 have hq1:w4.heap[f1]?=some (.cells #[.int .i64 0,.int .i64 0] 32 (0,0)):=(H24.out.1.block f1 (Array.getElem?_eq_some_iff.1 H2.out.1).1 (fun h=>h)).trans H2.out.1
 have hq2:=H4.out.1
 have c0:w4.cell? ⟨f1,0,none⟩=some (.int .i64 0):=cell_blk hq1
 have c1:w4.cell? ⟨f2,0,none⟩=some (.int .i64 0):=cell_blk hq2
 have l1:f1 < w4.heap.size:=(Array.getElem?_eq_some_iff.1 hq1).1
 have l2:f2 < w4.heap.size:=(Array.getElem?_eq_some_iff.1 hq2).1
 clear hq1 hq2
 go_upto_region 5 with fail
 go_wp2_with fail
 obtain⟨r1,hr1⟩:∃ x,x=w4.heap.size:=⟨_,rfl⟩
 obtain⟨w5,hw5⟩:∃ x,x=w4.alloc (.cells #[.int .i64 0,.int .i64 1,.int .i64 0] 3):=⟨_,rfl⟩
 have H5:Hid (Ib w5 r1 [0,1,0]∧Only (fun _=>False) w4 w5∧Only (fun _=>False) w w5):=by rw [hw5,hr1];exact⟨heap_alloc_new w4 _,(Only.refl _ _).alloc _,H24.out.2.alloc _⟩
 rw [←hw5,←hr1]
 clear hw5 hr1 c0 c1 l1 l2
 refine Calls.mono (run1 _ _ r1 _ (H1.out.1.keep (H2.out.2.trans (H24.out.1.trans H5.out.2.1))) H5.out.1.iw (HT.out.keep H5.out.2.2)) ?_
 rintro e w6 ⟨g1,rfl,hg1,ho6⟩
 have H6:Hid (Ub w6 g1 [0,0,1,2]∧Only (fun _=>False) w4 w6∧Only (fun _=>False) w w6):=⟨hg1,H5.out.2.1.trans ho6,H5.out.2.2.trans ho6⟩
 clear hg1 ho6
 go_wp2_with fail
 obtain⟨r2,hr2⟩:∃ x,x=w6.heap.size:=⟨_,rfl⟩
 obtain⟨w7,hw7⟩:∃ x,x=w6.alloc (.cells #[.int .u8 0,.int .u8 0,.int .u8 1,.int .u8 2] 25):=⟨_,rfl⟩
 have H7:Hid (Ub w7 r2 [0,0,1,2]∧Only (fun _=>False) w6 w7):=by rw [hw7,hr2];exact⟨heap_alloc_new w6 _,(Only.refl _ _).alloc _⟩
 rw [←hw7,←hr2]
 clear hw7 hr2
 refine Calls.mono (sameOpps_any g1 r2 4 4 4 4 [0,0,1,2] [0,0,1,2] _ (H6.out.1.keep0 H7.out.2) H7.out.1 rfl rfl (by decide) (by decide)) ?_
 rintro e w8 ⟨rfl,ho8⟩
 have H8:Hid (Only (fun _=>False) w4 w8∧Only (fun _=>False) w w8):=⟨H6.out.2.1.trans (H7.out.2.trans ho8),H6.out.2.2.trans (H7.out.2.trans ho8)⟩
 clear ho8
 rw [show decide (([0,0,1,2]:List Int)=[0,0,1,2])=true by decide]
 go_wp2_with fail
 obtain⟨r3,hr3⟩:∃ x,x=w8.heap.size:=⟨_,rfl⟩
 obtain⟨w9,hw9⟩:∃ x,x=w8.alloc (.cells #[.int .i64 1,.int .i64 0,.int .i64 1,.int .i64 1,.int .i64 0] 3):=⟨_,rfl⟩
 have H9:Hid (Ib w9 r3 [1,0,1,1,0]∧Only (fun _=>False) w4 w9∧Only (fun _=>False) w w9):=by rw [hw9,hr3];exact⟨heap_alloc_new w8 _,H8.out.1.alloc _,H8.out.2.alloc _⟩
 rw [←hw9,←hr3]
 clear hw9 hr3
 refine Calls.mono (run2 _ _ r3 _ (H3.out.1.keep (H4.out.2.trans H9.out.2.1)) H9.out.1.iw (HT.out.keep H9.out.2.2)) ?_
 rintro e wa ⟨g2,rfl,hg2,hoa⟩
 have HA:Hid (Ub wa g2 [0,1,0,0,1,2]∧Only (fun _=>False) w wa):=⟨hg2,H9.out.2.2.trans hoa⟩
 clear hg2 hoa
 go_wp2_with fail
 obtain⟨r4,hr4⟩:∃ x,x=wa.heap.size:=⟨_,rfl⟩
 obtain⟨wb,hwb⟩:∃ x,x=wa.alloc (.cells #[.int .u8 0,.int .u8 1,.int .u8 0,.int .u8 0,.int .u8 1,.int .u8 2] 25):=⟨_,rfl⟩
 have HB:Hid (Ub wb r4 [0,1,0,0,1,2]∧Only (fun _=>False) wa wb):=by rw [hwb,hr4];exact⟨heap_alloc_new wa _,(Only.refl _ _).alloc _⟩
 rw [←hwb,←hr4]
 clear hwb hr4
 refine Calls.mono (sameOpps_any g2 r4 6 6 6 6 [0,1,0,0,1,2] [0,1,0,0,1,2] _ (HA.out.1.keep0 HB.out.2) HB.out.1 rfl rfl (by decide) (by decide)) ?_
 rintro e wc ⟨rfl,hoc⟩
 have HC:Hid (Only (fun _=>False) w wc):=HA.out.2.trans (HB.out.2.trans hoc)
 clear hoc
 rw [show decide (([0,1,0,0,1,2]:List Int)=[0,1,0,0,1,2])=true by decide]
 go_wp2_with fail
 go_ret
 exact⟨rfl,HC.out⟩
end Go.Proofs.YtchaoonefiamdaaGreatDoor
namespace Go.Proofs.YtchaoonefiamdaaGreatDoor
open Go.RowKit Go.Maps
set_option linter.unusedVariables false
set_option linter.unusedSimpArgs false
open Rl (Ex)
theorem rowOf_id (s:Rl.St) (cl:Nat) (C:List Int) (hj:s.join=0) (ht:s.treat=(List.range cl).map (fun (q:Nat)=>(q:Int))) (hC:∀ c∈C,0≤c∧c < (cl:Int)):rowOf s cl C=C:=by
 have hT:s.treat.map (fun x=>clO x cl)=(List.range cl).map (fun (q:Nat)=>(q:Int)):=by
  rw [ht,List.map_map]
  apply List.map_congr_left
  intro q hq
  have:=List.mem_range.1 hq
  show clO ((q:Nat):Int) cl=_
  exact clO_self (by omega) (by omega)
 unfold rowOf
 rw [hT,hj,al_all,List.map_map]
 apply List.ext_getElem?
 intro i
 rw [List.getElem?_map]
 by_cases hi:i < C.length
 ·rw [List.getElem?_range hi]
  obtain⟨c,hc⟩:∃ c,C[i]?=some c:=⟨_,List.getElem?_eq_getElem hi⟩
  have h1:=hC c (List.mem_of_getElem? hc)
  rw [hc]
  show some (tk1 _ C ((0+i:Nat):Int))=_
  unfold tk1
  rw [Nat.zero_add,Int.toNat_natCast,hc,Option.getD_some,List.length_map,List.length_range,clO_self h1.1 h1.2,List.getElem?_map,List.getElem?_range (by omega)]
  show some ((c.toNat:Nat):Int)=_
  rw [Int.toNat_of_nonneg h1.1]
 ·rw [List.getElem?_eq_none (by rw [List.length_range];omega),List.getElem?_eq_none (by omega)]
  rfl
theorem plainRun_any (s:Rl.St) (cl n:Nat) (nL:List (List Nat)) (oL:List Nat) (nR:List (List Nat)) (oR:List Nat) (lo mb:Nat) (aC:Option Addr) (nC cC:Nat) (C:List Int) (w:World)
  (hm:Mac w lo mb s cl n nL oL nR oR) (hL:Au.make (s.list.map (·.left)) (cl:Int)=.ok (nL,oL)) (hR:Au.make (s.list.map (·.right)) (cl:Int)=.ok (nR,oR)) (hn:n=s.list.length) (hn9:n≤9) (h0:0 < cl) (hj:s.join=0) (ha:0≤s.after∧s.after < 4294967296) (ht:s.treat=(List.range cl).map (fun (q:Nat)=>(q:Int))) (hin:∀ c∈C,0≤c∧c < (cl:Int))
  (hC:Iw w aC nC C) (hnC:nC≤999) (hT:Tz w) :
  Calls Tryz.prog 7 #[.pointer (some ⟨mb,0,none⟩),.slice aC nC cC] w fun e w'=>∃ g O,e=.returned (.slice (some ⟨g,0,none⟩) (nC+1) (nC+1))∧Ub w' g O∧O.length=nC+1∧(∀ i v,0 < i→i < nC→O[i]?=some v→first1 s.list C i v)∧(0 < nC→O[0]?=some 0)∧O[nC]?=some 2∧Only (fun _=>False) w w':=by
 refine (macRun_any s cl n nL oL nR oR lo mb aC nC cC C w hm hL hR hn hn9 (by rw [ht,List.length_map,List.length_range]) h0 (by rw [hj];decide) ha hC hnC hT).mono ?_
 rintro e w' ⟨g,B,h1,_,h2,h3,h4,h5⟩
 rw [rowOf_id s cl C hj ht hin] at h4
 rw [hj,al_all,List.length_map,List.length_range,hC.1] at h2 h3
 have hat:=rn_all (List.replicate nC 0++[2]) B nC (by simp) h3 nC (Nat.le_refl _)
 refine⟨g,_,h1,h2,by rw [rn_len];simp,fun i v hi hi2 hv=>h4 i v (by rw [hat,if_pos ⟨hi,hi2⟩] at hv;exact hv),fun hp=>?_,?_,h5⟩
 ·rw [hat,if_neg (by omega),List.getElem?_append_left (by simpa using hp),List.getElem?_replicate,if_pos hp]
 ·rw [hat,if_neg (by omega),List.getElem?_append_right (by simp)]
  simp
end Go.Proofs.YtchaoonefiamdaaGreatDoor
namespace Go.Proofs.YtchaoonefiamdaaGreatDoor
open Go.RowKit Go.Maps
set_option linter.unusedVariables false
set_option linter.unusedSimpArgs false
open Rl (Ex)
namespace Lo9
def letter (a:Nat):UInt8:=if a=0 then 65 else if a=1 then 66 else 67
def word (d:Nat):Rl.Str:=if d=0 then [107,101,101,112] else if d=1 then [109,97,121] else [109,117,115,116]
def lin (d a b:Nat):Rl.Str:=word d++[32,letter a,32,47,32,letter b,59]
def txt (ds:Nat→Nat):Nat→Nat→Rl.Str
 | _,0=>[]
 | i,n+1=>(if ds i < 3 then lin (ds i) (i / 3) (i%3) else [])++txt ds (i+1) n
def rls (ds:Nat→Nat):Nat→Nat→List (Int × Int × Int)
 | _,0=>[]
 | i,n+1=>(if ds i < 3 then [(((ds i:Nat):Int),(2:Int) ^ (i / 3),(2:Int) ^ (i%3))] else [])++rls ds (i+1) n
def env3:Rl.Env:=[([65],1),([66],2),([67],4)]
def tkS (r:Rl.Str) (i:Nat):Rl.Tk:=⟨(r.drop (Rl.blk false r)).take (Rl.plen (r.drop (Rl.blk false r))),i+Rl.blk false r,decide (r.drop (Rl.blk false r)≠[]∧Rl.plen (r.drop (Rl.blk false r))=0)⟩
theorem tk_drop {l r:Rl.Str} {i:Nat} (h:l.drop i=r):Rl.tk l i=tkS r i:=by
 unfold Rl.tk tkS Rl.nx
 rw [←h,List.drop_drop]
theorem drop_more {l r:Rl.Str} {i n:Nat} {x:Rl.Str} (h:l.drop i=x++r) (hn:n=x.length):l.drop (i+n)=r:=by
 rw [←List.drop_drop,h,hn,List.drop_left]
theorem tk_end (i:Nat):tkS [] i=⟨[],i,false⟩:=rfl
set_option maxRecDepth 10000 in
theorem tk_word {d:Nat} (h:d < 3) (r:Rl.Str) (i:Nat):tkS (word d++(32::r)) i=⟨word d,i,false⟩:=by
 rcases (show d=0∨d=1∨d=2 by omega) with rfl | rfl | rfl <;> rfl
theorem tk_lets {a:Nat} (h:a < 3) (r:Rl.Str) (i:Nat):tkS (32::letter a::32::r) i=⟨[letter a],i+1,false⟩:=by
 rcases (show a=0∨a=1∨a=2 by omega) with rfl | rfl | rfl <;> rfl
theorem tk_letc {a:Nat} (h:a < 3) (r:Rl.Str) (i:Nat):tkS (32::letter a::59::r) i=⟨[letter a],i+1,false⟩:=by
 rcases (show a=0∨a=1∨a=2 by omega) with rfl | rfl | rfl <;> rfl
theorem tk_bar (r:Rl.Str) (i:Nat):tkS (32::47::32::r) i=⟨[47],i+1,false⟩:=rfl
theorem tk_semi (r:Rl.Str) (i:Nat):tkS (59::r) i=⟨[59],i,false⟩:=rfl
theorem let_find {a:Nat} (h:a < 3):Rl.find env3 [letter a]=some (2 ^ a)∧Rl.isNm ⟨[letter a],0,false⟩=true∧[letter a]≠[40]∧[letter a]≠[46]∧[letter a]≠[91]:=by
 rcases (show a=0∨a=1∨a=2 by omega) with rfl | rfl | rfl <;> decide
theorem either_one {a:Nat} (h:a < 3) (F nc p i:Nat) (u:Rl.Tk) (ts:List Rl.Tk) (hp:p≠200) (hu:u.bad=false) (hb:Rl.beg u=false) (h1:u.text≠[42]) (h2:u.text≠[43]) (h3:u.text≠[63]) (h4:u.text≠[124]) :
  Rl.either env3 nc (F+8) 0 (⟨[letter a],i,false⟩::u::ts) p=.ok (.mk 1 (2 ^ a) [],u::ts,p+1):=by
 obtain⟨e1,e2,e3,e4,e5⟩:=let_find h
 have eb:Rl.beg ⟨[letter a],i,false⟩=true:=by
  unfold Rl.beg
  have:Rl.isNm ⟨[letter a],i,false⟩=true:=e2
  rw [this]
  rfl
 simp [Rl.either,Rl.row,Rl.thing,Rl.some',Rl.often,Rl.alts,Rl.took,Rl.mkSeq,Rl.mkAlt,eb,hb,hu,h1,h2,h3,h4,e1,e3,e4,e5,hp]
theorem rule_one {d a b:Nat} (ha:a < 3) (hb:b < 3) (q1 q2 q3 q4:Nat) (ts:List Rl.Tk) (tr:List Int) (jo af:Int) (pl:Nat) (L:List Rl.Rule) (hp:pl+2≤200) (hL:L.length≠24) (dd:Int) (at':Nat) :
  Rl.rule' dd at' (⟨[letter a],q1,false⟩::⟨[47],q2,false⟩::⟨[letter b],q3,false⟩::⟨[59],q4,false⟩::ts) ⟨[[65],[66],[67]],tr,jo,af,env3,pl,L⟩=.ok (⟨[59],q4,false⟩::ts,⟨[[65],[66],[67]],tr,jo,af,env3,pl+2,L++[⟨dd,.mk 1 (2 ^ a) [],.mk 1 (2 ^ b) []⟩]⟩):=by
 unfold Rl.rule'
 rw [if_neg hL]
 simp only
 have f1:Rl.fuel (⟨[letter a],q1,false⟩::⟨[47],q2,false⟩::⟨[letter b],q3,false⟩::⟨[59],q4,false⟩::ts)=(4*ts.length+16)+8:=by unfold Rl.fuel;simp only [List.length_cons];omega
 rw [f1,either_one ha _ _ _ _ _ _ (by omega) rfl rfl (by simp) (by simp) (by simp) (by simp)]
 have f2:Rl.fuel (⟨[letter b],q3,false⟩::⟨[59],q4,false⟩::ts)=(4*ts.length+8)+8:=by unfold Rl.fuel;simp only [List.length_cons];omega
 have w1:Rl.want 47 (⟨[47],q2,false⟩::⟨[letter b],q3,false⟩::⟨[59],q4,false⟩::ts)=.ok (⟨[letter b],q3,false⟩::⟨[59],q4,false⟩::ts):=by simp [Rl.want]
 simp only [w1]
 rw [f2,either_one hb _ _ _ _ _ _ (by omega) rfl rfl (by simp) (by simp) (by simp) (by simp)]
theorem line_one {d a b:Nat} (hd:d < 3) (ha:a < 3) (hb:b < 3) (q0 q1 q2 q3 q4 f:Nat) (ts:List Rl.Tk) (tr:List Int) (jo af:Int) (pl:Nat) (L:List Rl.Rule) (hp:pl+2≤200) (hL:L.length≠24) :
  Rl.lines (f+1) (⟨word d,q0,false⟩::⟨[letter a],q1,false⟩::⟨[47],q2,false⟩::⟨[letter b],q3,false⟩::⟨[59],q4,false⟩::ts) ⟨[[65],[66],[67]],tr,jo,af,env3,pl,L⟩=Rl.lines f ts ⟨[[65],[66],[67]],tr,jo,af,env3,pl+2,L++[ruleOf (((d:Nat):Int),(2:Int) ^ a,(2:Int) ^ b)]⟩:=by
 have hr:=fun dd=>rule_one (d:=d) ha hb q1 q2 q3 q4 ts tr jo af pl L hp hL dd q0
 have hw:∀ d',d' < 3→word d'≠[]:=by decide
 have hl:Rl.line ⟨word d,q0,false⟩ (⟨[letter a],q1,false⟩::⟨[47],q2,false⟩::⟨[letter b],q3,false⟩::⟨[59],q4,false⟩::ts) ⟨[[65],[66],[67]],tr,jo,af,env3,pl,L⟩=.ok (⟨[59],q4,false⟩::ts,⟨[[65],[66],[67]],tr,jo,af,env3,pl+2,L++[ruleOf (((d:Nat):Int),(2:Int) ^ a,(2:Int) ^ b)]⟩):=by
  rcases (show d=0∨d=1∨d=2 by omega) with rfl | rfl | rfl
  ·exact hr 0
  ·exact hr 1
  ·exact hr 2
 have hw':=hw d hd
 rw [Rl.lines]
 simp [hw',hl,Rl.want]
theorem read_txt (ds:Nat→Nat):∀ (n i p:Nat) (l:Rl.Str),l.drop p=txt ds i n→i+n≤9→∃ ts,Rl.Strm l p ts∧(rls ds i n).length < ts.length∧∀ (f:Nat) (tr:List Int) (jo af:Int) (pl:Nat) (L:List Rl.Rule),(rls ds i n).length < f→pl+2*n≤200→L.length+n≤20→∃ pl',Rl.lines f ts ⟨[[65],[66],[67]],tr,jo,af,env3,pl,L⟩=.ok ⟨[[65],[66],[67]],tr,jo,af,env3,pl',L++(rls ds i n).map ruleOf⟩
 | 0,i,p,l,h,_=>by
  have h':l.drop p=[]:=h
  refine⟨[⟨[],p,false⟩],⟨by rw [tk_drop h'];rfl,by simp⟩,Nat.one_pos,fun f tr jo af pl L hf _ _=>⟨pl,?_⟩⟩
  obtain⟨g,rfl⟩:∃ g,f=g+1:=⟨f-1,by omega⟩
  rw [Rl.lines]
  simp [rls]
 | n+1,i,p,l,h,hi=>by
  by_cases hd:ds i < 3
  ·have h1:l.drop p=lin (ds i) (i / 3) (i%3)++txt ds (i+1) n:=by rw [h,txt,if_pos hd]
   obtain⟨d,hde⟩:∃ d,d=ds i:=⟨_,rfl⟩
   obtain⟨a,hae⟩:∃ a,a=i / 3:=⟨_,rfl⟩
   obtain⟨b,hbe⟩:∃ b,b=i%3:=⟨_,rfl⟩
   rw [←hde,←hae,←hbe] at h1
   have ha:a < 3:=by omega
   have hb:b < 3:=by omega
   have hd':d < 3:=by omega
   obtain⟨r,hr⟩:∃ r,r=txt ds (i+1) n:=⟨_,rfl⟩
   rw [←hr] at h1
   obtain⟨w,hw⟩:∃ w,w=(word d).length:=⟨_,rfl⟩
   have g0:l.drop p=word d++(32::(letter a::32::47::32::letter b::59::r)):=by rw [h1];unfold lin;rw [List.append_assoc];rfl
   have g1:l.drop (p+w)=32::letter a::32::(47::32::letter b::59::r):=drop_more g0 hw
   have g2:l.drop (p+w+1+1)=32::47::32::(letter b::59::r):=by
    rw [Nat.add_assoc (p+w)]
    exact drop_more (x:=[32,letter a]) g1 rfl
   have g3:l.drop (p+w+1+1+1+1)=32::letter b::59::r:=by
    rw [Nat.add_assoc (p+w+1+1)]
    exact drop_more (x:=[32,47]) g2 rfl
   have g4:l.drop (p+w+1+1+1+1+1+1)=59::r:=by
    rw [Nat.add_assoc (p+w+1+1+1+1)]
    exact drop_more (x:=[32,letter b]) g3 rfl
   have g5:l.drop (p+w+1+1+1+1+1+1+1)=r:=drop_more (x:=[59]) g4 rfl
   obtain⟨ts,hs,hln,hl⟩:=read_txt ds n (i+1) _ l (by rw [g5,hr]) (by omega)
   have hcn:(rls ds i (n+1)).length=(rls ds (i+1) n).length+1:=by rw [rls,if_pos hd,List.length_append];simp only [List.length_cons,List.length_nil];omega
   have hwn:word d≠[]:=by
    have:∀ d',d' < 3→word d'≠[]:=by decide
    exact this d hd'
   refine⟨⟨word d,p,false⟩::⟨[letter a],p+w+1,false⟩::⟨[47],p+w+1+1+1,false⟩::⟨[letter b],p+w+1+1+1+1+1,false⟩::⟨[59],p+w+1+1+1+1+1+1,false⟩  ::ts,?_,by simp only [List.length_cons];omega,fun f tr jo af pl L hf hp hL=>?_⟩
   ·refine⟨by rw [tk_drop g0,tk_word hd'],?_⟩
    rw [if_neg hwn]
    simp only
    rw [←hw]
    refine⟨by rw [tk_drop g1,tk_lets ha],?_⟩
    rw [if_neg (by simp)]
    refine⟨by show _=Rl.tk l (p+w+1+1);rw [tk_drop g2,tk_bar],?_⟩
    rw [if_neg (by simp)]
    refine⟨by show _=Rl.tk l (p+w+1+1+1+1);rw [tk_drop g3,tk_letc hb],?_⟩
    rw [if_neg (by simp)]
    refine⟨by show _=Rl.tk l (p+w+1+1+1+1+1+1);rw [tk_drop g4,tk_semi],?_⟩
    rw [if_neg (by simp)]
    exact hs
   ·obtain⟨g,rfl⟩:∃ g,f=g+1:=⟨f-1,by omega⟩
    rw [line_one hd' ha hb _ _ _ _ _ _ _ _ _ _ _ _ (by omega) (by omega)]
    obtain⟨pl',e⟩:=hl g tr jo af (pl+2) (L++[ruleOf (((d:Nat):Int),(2:Int) ^ a,(2:Int) ^ b)]) (by omega) (by omega) (by rw [List.length_append];simp only [List.length_cons,List.length_nil];omega)
    refine⟨pl',?_⟩
    rw [e,rls,if_pos hd,←hde,←hae,←hbe,List.append_assoc]
    rfl
  ·have h1:l.drop p=txt ds (i+1) n:=by rw [h,txt,if_neg hd];rfl
   obtain⟨ts,hs,hln,hl⟩:=read_txt ds n (i+1) p l h1 (by omega)
   have hcn:rls ds i (n+1)=rls ds (i+1) n:=by rw [rls,if_neg hd];rfl
   refine⟨ts,hs,by rw [hcn];exact hln,fun f tr jo af pl L hf hp hL=>?_⟩
   obtain⟨pl',e⟩:=hl f tr jo af pl L (by rw [←hcn];exact hf) (by omega) (by omega)
   exact⟨pl',by rw [e,hcn]⟩
def hd9:Rl.Str:=[99,108,97,115,115,32,65,32,66,32,67,59]
def tx9 (ds:Nat→Nat):Rl.Str:=hd9++txt ds 0 9
theorem txt_len (ds:Nat→Nat):∀ n i,(txt ds i n).length≤11*n
 | 0,i=>Nat.le_refl _
 | n+1,i=>by
  rw [txt,List.length_append]
  have ih:=txt_len ds n (i+1)
  have:∀ d,(word d).length≤4:=fun d=>by
   unfold word
   split
   ·decide
   ·split <;> decide
  have h2:(if ds i < 3 then lin (ds i) (i / 3) (i%3) else []).length≤11:=by
   split
   ·unfold lin
    rw [List.length_append]
    have:=this (ds i)
    simp only [List.length_cons,List.length_nil]
    omega
   ·exact Nat.zero_le _
  omega
theorem read9 (ds:Nat→Nat):∃ pl,rd ⟨(tx9 ds).toArray⟩ (.ok ⟨[[65],[66],[67]],[0,1,2],0,0,env3,pl,(rls ds 0 9).map ruleOf⟩):=by
 have hlen:=txt_len ds 9 0
 have h12:(tx9 ds).length≤4096:=by unfold tx9;rw [List.length_append];have:hd9.length=12:=rfl;omega
 have g:(tx9 ds).drop 12=txt ds 0 9:=by unfold tx9;exact List.drop_left' rfl
 obtain⟨ts,hs,hln,hl⟩:=read_txt ds 9 0 12 (tx9 ds) g (by decide)
 obtain⟨r,hr⟩:∃ r,r=txt ds 0 9:=⟨_,rfl⟩
 have e0:(tx9 ds).drop 0=99::108::97::115::115::32::65::32::66::32::67::59::r:=by rw [hr];rfl
 have e5:(tx9 ds).drop 5=32::65::32::66::32::67::59::r:=by rw [hr];rfl
 have e7:(tx9 ds).drop 7=32::66::32::67::59::r:=by rw [hr];rfl
 have e9:(tx9 ds).drop 9=32::67::59::r:=by rw [hr];rfl
 have e11:(tx9 ds).drop 11=59::r:=by rw [hr];rfl
 obtain⟨pl',e⟩:=hl (ts.length+5) [0,1,2] 0 0 0 [] (by omega) (by decide) (by decide)
 refine⟨pl',Or.inr ⟨by show (tx9 ds).toArray.size≤4096;simpa using h12,⟨[99,108,97,115,115],0,false⟩::⟨[65],6,false⟩::⟨[66],8,false⟩::⟨[67],10,false⟩::⟨[59],11,false⟩::ts,?_,?_⟩⟩
 ·show Rl.Strm (tx9 ds) 0 _
  refine⟨by rw [tk_drop e0];rfl,?_⟩
  rw [if_neg (by simp)]
  refine⟨by show _=Rl.tk (tx9 ds) 5;rw [tk_drop e5];rfl,?_⟩
  rw [if_neg (by simp)]
  refine⟨by show _=Rl.tk (tx9 ds) 7;rw [tk_drop e7];rfl,?_⟩
  rw [if_neg (by simp)]
  refine⟨by show _=Rl.tk (tx9 ds) 9;rw [tk_drop e9];rfl,?_⟩
  rw [if_neg (by simp)]
  refine⟨by show _=Rl.tk (tx9 ds) 11;rw [tk_drop e11];rfl,?_⟩
  rw [if_neg (by simp)]
  exact hs
 ·rw [←List.nil_append ((rls ds 0 9).map ruleOf),←e]
  rfl
def allB:Nat→(List Bool→Bool)→Bool
 | 0,f=>f []
 | n+1,f=>allB n (fun l=>f (true::l)) && allB n (fun l=>f (false::l))
theorem allB_all:∀ (n:Nat) (f:List Bool→Bool),allB n f=true→∀ l:List Bool,l.length=n→f l=true
 | 0,f,h,l,hl=>by
  have e:l=[]:=List.eq_nil_of_length_eq_zero hl
  rw [e]
  exact h
 | n+1,f,h,l,hl=>by
  rw [allB,Bool.and_eq_true] at h
  match l,hl with
  | true::l,hl=>exact allB_all n _ h.1 l (by simpa using hl)
  | false::l,hl=>exact allB_all n _ h.2 l (by simpa using hl)
def sid (g:Nat→Nat):Nat→List Bool→List Ex
 | _,[]=>[]
 | i,b::l=>(if b then [.mk 1 (2 ^ g i) []] else [])++sid g (i+1) l
def okM (r:Except Nat (List (List Nat) × List Nat)):Bool:=match r with | .ok _=>true | .error _=>false
theorem okM_some {r:Except Nat (List (List Nat) × List Nat)} (h:okM r=true):∃ n o,r=.ok (n,o):=by
 match r,h with
 | .ok (n,o),_=>exact⟨n,o,rfl⟩
def has9 (ds:Nat→Nat):Nat→Nat→List Bool
 | _,0=>[]
 | i,n+1=>decide (ds i < 3)::has9 ds (i+1) n
theorem has9_len (ds:Nat→Nat):∀ n i,(has9 ds i n).length=n
 | 0,_=>rfl
 | n+1,i=>by rw [has9,List.length_cons,has9_len ds n (i+1)]
theorem sid_left (ds:Nat→Nat):∀ n i,((rls ds i n).map ruleOf).map (·.left)=sid (· / 3) i (has9 ds i n)
 | 0,i=>rfl
 | n+1,i=>by
  rw [rls,has9,sid,List.map_append,List.map_append,sid_left ds n (i+1)]
  by_cases h:ds i < 3
  ·rw [if_pos h,decide_eq_true h];rfl
  ·rw [if_neg h,decide_eq_false h];rfl
theorem sid_right (ds:Nat→Nat):∀ n i,((rls ds i n).map ruleOf).map (·.right)=sid (·%3) i (has9 ds i n)
 | 0,i=>rfl
 | n+1,i=>by
  rw [rls,has9,sid,List.map_append,List.map_append,sid_right ds n (i+1)]
  by_cases h:ds i < 3
  ·rw [if_pos h,decide_eq_true h];rfl
  ·rw [if_neg h,decide_eq_false h];rfl
theorem fs_rls (ds:Nat→Nat) {a b:Nat} (ha:a < 3) (hb:b < 3):∀ (n i:Nat),i+n≤9→fs (rls ds i n) (a:Int) (b:Int)=if i≤3*a+b∧3*a+b < i+n∧ds (3*a+b) < 3 then ((ds (3*a+b):Nat):Int) else 1
 | 0,i,_=>by rw [if_neg (by omega)];rfl
 | n+1,i,hi=>by
  have ih:=fs_rls ds ha hb n (i+1) (by omega)
  have ki0:∀ x,x < 3→∀ c,c < 3→(inS ((2:Int) ^ x) ((c:Nat):Int)=true↔x=c):=by decide
  have ki:∀ x c:Nat,x < 3→c < 3→(inS ((2:Int) ^ x) (c:Int)=true↔x=c):=fun x c h1 h2=>ki0 x h1 c h2
  rw [rls]
  by_cases hd:ds i < 3
  ·rw [if_pos hd]
   show (if inS (2 ^ (i / 3)) (a:Int)=true∧inS (2 ^ (i%3)) (b:Int)=true then ((ds i:Nat):Int) else fs (rls ds (i+1) n) a b)=_
   by_cases he:i=3*a+b
   ·rw [if_pos ⟨(ki _ _ (by omega) ha).2 (by omega),(ki _ _ (by omega) hb).2 (by omega)⟩,if_pos (by rw [←he];exact⟨Nat.le_refl _,by omega,hd⟩),he]
   ·rw [if_neg (fun q=>he (by have h1:=(ki _ _ (by omega) ha).1 q.1;have h2:=(ki _ _ (by omega) hb).1 q.2;omega)),ih]
    by_cases hc:i+1≤3*a+b∧3*a+b < i+1+n∧ds (3*a+b) < 3
    ·rw [if_pos hc,if_pos (by omega)]
    ·rw [if_neg hc,if_neg (by omega)]
  ·rw [if_neg hd,List.nil_append,ih]
   by_cases hc:i+1≤3*a+b∧3*a+b < i+1+n∧ds (3*a+b) < 3
   ·rw [if_pos hc,if_pos (by omega)]
   ·rw [if_neg hc,if_neg (fun q=>hc ⟨by
     by_cases he:i=3*a+b
     ·rw [←he] at q;exact absurd q.2.2 hd
     ·omega,by omega,q.2.2⟩)]
set_option maxRecDepth 100000 in
theorem makes9:allB 9 (fun l=>okM (Au.make (sid (· / 3) 0 l) ((3:Nat):Int)) && okM (Au.make (sid (·%3) 0 l) ((3:Nat):Int)))=true:=by kernel_rfl
theorem make9 (ds:Nat→Nat):(∃ n o,Au.make (((rls ds 0 9).map ruleOf).map (·.left)) ((3:Nat):Int)=.ok (n,o))∧∃ n o,Au.make (((rls ds 0 9).map ruleOf).map (·.right)) ((3:Nat):Int)=.ok (n,o):=by
 have h:=allB_all 9 _ makes9 (has9 ds 0 9) (has9_len ds 9 0)
 rw [Bool.and_eq_true] at h
 rw [sid_left,sid_right]
 exact⟨okM_some h.1,okM_some h.2⟩
end Lo9
end Go.Proofs.YtchaoonefiamdaaGreatDoor
