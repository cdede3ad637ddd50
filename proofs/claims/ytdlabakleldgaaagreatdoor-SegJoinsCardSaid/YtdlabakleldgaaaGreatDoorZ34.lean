/- LSl LGr0 LMb LGr1 LGr2 LCl LGr3 -/
import Derived.Test.YtdlabakleldgaaaGreatDoorZ00
import Derived.Test.YtdlabakleldgaaaGreatDoorZ32
import Derived.Test.YtdlabakleldgaaaGreatDoorZ33
import Derived.Test.YtdlabakleldgaaaGreatDoorZ31
import Derived.Test.YtdlabakleldgaaaGreatDoorZ28
set_option linter.unusedVariables false
set_option linter.unusedSimpArgs false
set_option maxRecDepth 100000
set_option maxHeartbeats 8000000
namespace Go.Proofs.YtdlabakleldgaaaGreatDoor.L
open Go.RowKit Go.Maps
def SL (w:World) (gb rb ab ob n base B1 i K0:Nat) (jf row at':List Nat) (ls:List (Nat × Nat × Nat)) (T:Nat→Prop) (e:Ending) (w':World):Prop:=
 e=.returned (.tuple #[])∧∃D9 of' ls',Ms w' gb rb ab ob n base B1 D9 row at' of' ls'∧Hm.P2 n K0 jf row at' of' ls' T∧(∀x:Nat,(∃f t d,ls'[x]?=some (f,t,d)∧0 < d)↔(x≠i∧∃f t d,ls[x]?=some (f,t,d)∧0 < d))∧Kp base B1 w w'
theorem pG (gb rb ab ob n base B1 i K0:Nat) (vL:Value) (jf row at' of:List Nat) (ls:List (Nat × Nat × Nat)) (T:Nat→Prop) (w:World) (hM:Ms w gb rb ab ob n base B1 vL row at' of ls) (hP:Hm.P2 n K0 jf row at' of ls T) (hi:∃f t d,ls[i]?=some (f,t,d)∧0 < d):Calls Tryz.prog 119 #[.pointer (some ⟨gb,0,none⟩),.int .i64 (i:Int)] w (SL w gb rb ab ob n base B1 i K0 jf row at' ls T):=by
 obtain⟨f,t,d,hl,hd⟩:=hi
 obtain⟨lb,cap,rfl,_⟩:=hM.nl
 obtain⟨w1,w2,w3,_⟩:=hP.pi.sO i f t d hl
 obtain⟨r,hr⟩:∃r,t=f+d+r:=⟨t -(f+d),by omega⟩
 by_cases h0:r=0
 ·subst h0
  refine (Di gb rb ab ob n base B1 i f t d (f+d) ls.length lb cap row at' of ls w hM hl hd rfl hr w2 rfl T K0 jf hP).mono ?_
  rintro e w' ⟨he,cap',hM',ho⟩
  refine⟨he,_,_,_,hM',hP.whole hl hd (by omega),fun x=>?_,Kp.of ho (fun b hb=>yO hM b (Or.inl hb)) (fun b o hb=>yP hM b o (Or.inl hb))⟩
  have il:=(List.getElem?_eq_some_iff.1 hl).1
  rw [Hm.kM il]
  by_cases e2:i=x
  ·rw [if_pos e2]
   constructor
   ·rintro⟨f',t',d',h1,h2⟩
    injection h1 with h1
    simp only [Prod.mk.injEq] at h1
    omega
   ·rintro⟨h1,_⟩
    exact absurd e2.symm h1
  ·rw [if_neg e2]
   exact⟨fun h=>⟨fun e=>e2 e.symm,h⟩,fun h=>h.2⟩
 ·by_cases hlt:d < r
  ·refine (Dr gb rb ab ob n base B1 i f t d (f+d) r ls.length lb cap row at' of ls w hM hl hd rfl hr w2 hlt rfl T K0 jf hP).mono ?_
   rintro e w' ⟨he,lb',cap',of',ls',h1,h2,h3,h4⟩
   exact⟨he,_,of',ls',h1,h2,h3,h4⟩
  ·refine (K3 gb rb ab ob n base B1 i f t d (f+d) r ls.length lb cap row at' of ls w hM hl hd rfl hr w2 (by omega) hlt rfl T K0 jf hP).mono ?_
   rintro e w' ⟨he,lb',cap',of',ls',h1,h2,h3,h4⟩
   exact⟨he,_,of',ls',h1,h2,h3,h4⟩
theorem Kt.kp {w w1:World} {gb rb ab ob n base B1:Nat} {vL:Value} {row at' of:List Nat} {ls:List (Nat × Nat × Nat)} (h:Ms w gb rb ab ob n base B1 vL row at' of ls) {o1 o2:Obj} (k:Kt rb ab (w.heap.size+1) vL ((w.alloc o1).alloc o2) w1):Kp base B1 w w1:=by
 obtain⟨lb,cap,rfl,GR,AA,_,_,_,cur,eT⟩:=h.nl
 have e0:∀b o,w.heap[b]?=some o→((w.alloc o1).alloc o2).heap[b]?=some o:=fun b o hb=>by
  have hl:=(Array.getElem?_eq_some_iff.1 hb).1
  exact (Below.heap_alloc _ _ _ (by simp;omega)).trans ((Below.heap_alloc _ _ _ hl).trans hb)
 have hlo:=h.lo
 have hhi:=h.hi
 refine⟨k.os,k.tape,k.output,Nat.le_trans (by simp;omega) k.size,fun b hb hl=>?_,fun b o hb Uo hn=>?_⟩
 ·have hb2:=Array.getElem?_eq_getElem hl
  rw [hb2]
  exact k.keep b _ (e0 b _ hb2) (by omega) (by omega) (fun e=>by injection e with e;have e2:lb=b:=e;omega) (by omega) (Or.inl (by omega))
 ·have hl:=(Array.getElem?_eq_some_iff.1 Uo).1
  refine k.keep b o (e0 b o Uo) (by omega) (by omega) (fun e=>?_) (by omega) (Or.inl (by omega))
  injection e with e
  subst e
  rw [eT] at Uo
  injection Uo with Uo
  exact hn _ _ Uo.symm
def Ow (w:World) (gb rb ab ob n base B1 K:Nat) (of D:List Nat) (e:Ending) (w':World):Prop:=
 e=.returned (.tuple #[])∧∃D9 row' GV of' ls',Ms w' gb rb ab ob n base B1 D9 row' GV of' ls'∧Hm.Pt n row' GV of' ls' (fun _=>False)∧Hm.Split n (fun s=>of[s]?.getD 0) K (fun s=>s∈D) (fun s=>of'[s]?.getD 0) ls'.length∧Kp base B1 w w'
theorem gq {mt:List Nat} {i x:Nat} (h:mt[i]?=some x):mt.drop i=x::mt.drop (i+1):=by
 rw [List.drop_eq_getElem?_toList_append,h]
 rfl
theorem Du (gb rb ab ob n base B1 K ps:Nat) (vL:Value) (row at' of D:List Nat) (ls:List (Nat × Nat × Nat)) (w:World) (hM:Ms w gb rb ab ob n base B1 vL row at' of ls) (hB:B1≤w.heap.size) (hK:ls.length=K)
  (hA:Calls Tryz.prog 120 #[.func (.func 117) #[] #[.pointer (some ⟨w.heap.size,0,none⟩),.pointer (some ⟨w.heap.size+1,0,none⟩)],.pointer (some ⟨ps,0,none⟩)] ((w.alloc (.cells #[.pointer (some ⟨gb,0,none⟩)] 155)).alloc (.cells #[.slice none 0 0] 28)) fun e w'=>e=.returned (.tuple #[])∧St ((w.alloc (.cells #[.pointer (some ⟨gb,0,none⟩)] 155)).alloc (.cells #[.slice none 0 0] 28)) w' gb rb ab ob n base B1 w.heap.size (w.heap.size+1) K vL of D):
  Calls Tryz.prog 96 #[.pointer (some ⟨gb,0,none⟩),.func (.func 120) #[] #[.pointer (some ⟨ps,0,none⟩)]] w (Ow w gb rb ab ob n base B1 K of D):=by
 have HM:=zH hM
 have HA:Hid _:=hA
 have n1:=hM.n1
 have kn:=hM.kn
 have hKn:K≤n:=by omega
 clear hM hA hK kn
 go_enter Tryz.func96,Tryz.ntmps96
 go_wp2_with (first |(go_at_call 120;refine Calls.mono HA.out ?_;rintro e w1 ⟨rfl,kP,AR,AU,vm,mt,hM1,hP1,hT1,hK1,hk1⟩;obtain⟨am,cm,rfl⟩:=ah hT1.own;have Cf:=zH hM1;have fJ:Hid (Hm.P2 n AU.length of kP AR of AU (fun x=>x∈D)):=hP1.two;have HT1:=zH hT1;have VE:=zH hK1;have HKT:Hid (Kp base B1 w w1):=Kt.kp HM.out hk1;have z0:w1.cell? ⟨w.heap.size+1,0,none⟩=some (.slice am mt.length cm):=ae hT1.m;have lz0:=World.block_lt_of_cell? w1 _ z0;have lzg:=(Array.getElem?_eq_some_iff.1 hT1.g).1;have g_:mt.length≤n:=(by have:=q8 AU.length mt hT1.nd (fun x hx=>by obtain⟨f',t',d',h1,_⟩:=(hT1.mem x).1 hx;exact (List.getElem?_eq_some_iff.1 h1).1);have:=hM1.kn;omega);clear hM1 hP1 hT1 hK1 hk1))
 obtain⟨ml,yQ⟩:∃ml,ml=mt.length:=⟨_,rfl⟩
 have BN:=zH yQ
 rw [←yQ]
 rw [←yQ] at g_ z0
 clear yQ
 go_loopg [12] ml (fun gh v wr=>∃(x:Nat) (vY:Value) (K6:List Nat) (yR:List (Nat × Nat × Nat)) (Y:World),Y=wr∧gh=ml - x∧x≤ml∧v=.int .i64 (x:Int)∧Ms Y gb rb ab ob n base B1 vY kP AR K6 yR∧Hm.P2 n AU.length of kP AR K6 yR (fun x=>x∈D)∧(∀g:Nat,(∃f t d,yR[g]?=some (f,t,d)∧0 < d)↔g∈mt.drop x)∧Kp base B1 w1 Y)
 case atStart=>exact⟨0,vL,of,AU,_,rfl,rfl,Nat.zero_le _,rfl,Cf.out,fJ.out,fun g=>by rw [List.drop_zero];exact (HT1.out.mem g).symm,Kp.refl _ _ _⟩
 case round=>
  obtain⟨x,vY,K6,yR,Y,hY,rfl,hx,rfl,wh,Wu,Wv,Ww⟩:=hrel
  subst hY
  have sP:=zH wh
  have SN:=zH Wu
  have KI:=zH Wv
  have Ox:=zH Ww
  clear wh Wu Wv Ww
  by_cases hlt:x < ml
  ·have t1:(x:Int) <(ml:Int):=by omega
   obtain⟨g,hg⟩:∃g,mt[x]?=some g:=⟨_,List.getElem?_eq_getElem (by have:=BN.out;omega)⟩
   have HG:=zH hg
   clear hg
   obtain⟨gm,aai,hv,hgb,hgl,hgc,hcc⟩:=ax HT1.out.own (by have:=BN.out;omega)
   injection hv with hv1 hv2 hv3
   subst hv1
   subst hv3
   clear hv2
   have HBM:Hid (∃cur,w1.heap[gm]?=some (.cells cur 3 (0,0))):=(eZ HT1.out.own).2.2.2
   have cg:Y.cell? ⟨gm,x,none⟩=some (.int .i64 (g:Int)):=by
    obtain⟨cur,hc⟩:=HBM.out
    have hk:=Ox.out.new gm _ (by omega) hc (fun cs z e=>by injection e with _ e;cases e)
    have h1:Y.heap[gm]?=w1.heap[gm]?:=by rw [hk,hc]
    refine (World.cell?_of_block (a:=⟨gm,x,none⟩) h1).trans ?_
    rw [hcc x (by have:=BN.out;omega)]
    have:=eY mt x
    rw [HG.out] at this
    rw [Array.getElem?_toList]
    exact this
   have lgY:gm < Y.heap.size:=World.block_lt_of_cell? Y _ cg
   have cp:Y.cell? ⟨w.heap.size,0,none⟩=some (.pointer (some ⟨gb,0,none⟩)):=ae (Ox.out.new _ _ HT1.out.b1 HT1.out.g (fun cs z e=>by injection e with _ e;cases e))
   have lpY:w.heap.size < Y.heap.size:=World.block_lt_of_cell? Y _ cp
   clear hcc
   have HC:Hid (Calls Tryz.prog 119 #[.pointer (some ⟨gb,0,none⟩),.int .i64 (g:Int)] Y (SL Y gb rb ab ob n base B1 g AU.length of kP AR yR (fun x=>x∈D))):=pG gb rb ab ob n base B1 g AU.length vY of kP AR K6 yR _ Y sP.out SN.out ((KI.out g).2 (by rw [gq HG.out];simp))
   go_wp2_with (first |(go_at_call 119;refine Calls.mono HC.out ?_;rintro e w5 ⟨rfl,v5,SQ,Oy,PU,MF,Wx,Wz⟩;have H5:Hid (Ms w5 gb rb ab ob n base B1 v5 kP AR SQ Oy∧Hm.P2 n AU.length of kP AR SQ Oy (fun x=>x∈D)∧(∀x:Nat,(∃f t d,Oy[x]?=some (f,t,d)∧0 < d)↔(x≠g∧∃f t d,yR[x]?=some (f,t,d)∧0 < d))∧Kp base B1 Y w5):=⟨PU,MF,Wx,Wz⟩;clear PU MF Wx Wz))
   go_roundg (ml -(x+1))
   case measure=>omega
   case rel=>
    refine⟨x+1,v5,SQ,Oy,_,rfl,rfl,by omega,by go_num,H5.out.1,H5.out.2.1,fun y=>?_,Ox.out.trans H5.out.2.2.2⟩
    rw [H5.out.2.2.1 y,KI.out y,gq HG.out]
    have hnd:(g::mt.drop (x+1)).Nodup:=by rw [←gq HG.out];exact HT1.out.nd.sublist (List.drop_sublist _ _)
    have hng:=(List.nodup_cons.1 hnd).1
    constructor
    ·rintro⟨h1,h2⟩
     rcases List.mem_cons.1 h2 with h2 | h2
     ·exact absurd h2 h1
     ·exact h2
    ·intro h1
     exact⟨fun e=>hng (e ▸ h1),List.mem_cons.2 (Or.inr h1)⟩
  ·have t2:decide ((x:Int) <(ml:Int))=false:=decide_eq_false (by omega)
   have hz:∀(g f t d:Nat),yR[g]?=some (f,t,d)→d=0:=fun g f t d hg=>by
    by_cases hd:d=0
    ·exact hd
    ·have:=(KI.out g).1 ⟨f,t,d,hg,by omega⟩
     rw [List.drop_eq_nil_of_le (by have:=BN.out;omega)] at this
     cases this
   have HZ:=zH hz
   clear hz
   go_wp2_with fail
   go_end0
   have hs:=SN.out.done HZ.out fJ.out.pi.ol
   rw [VE.out] at hs
   exact⟨rfl,vY,kP,AR,K6,yR,sP.out,SN.out.again HZ.out,hs,HKT.out.trans Ox.out⟩
theorem Dv (gb rb ab ob n base B1 K pgo wm:Nat) (vL:Value) (row at' of D:List Nat) (ls:List (Nat × Nat × Nat)) (w:World) (hM:Ms w gb rb ab ob n base B1 vL row at' of ls) (hB:B1≤w.heap.size) (hK:ls.length=K)
  (hA:Calls Tryz.prog 121 #[.func (.func 117) #[] #[.pointer (some ⟨w.heap.size,0,none⟩),.pointer (some ⟨w.heap.size+1,0,none⟩)],.pointer (some ⟨pgo,0,none⟩),.pointer (some ⟨wm,0,none⟩)] ((w.alloc (.cells #[.pointer (some ⟨gb,0,none⟩)] 155)).alloc (.cells #[.slice none 0 0] 28)) fun e w'=>e=.returned (.tuple #[])∧St ((w.alloc (.cells #[.pointer (some ⟨gb,0,none⟩)] 155)).alloc (.cells #[.slice none 0 0] 28)) w' gb rb ab ob n base B1 w.heap.size (w.heap.size+1) K vL of D):
  Calls Tryz.prog 96 #[.pointer (some ⟨gb,0,none⟩),.func (.func 121) #[] #[.pointer (some ⟨pgo,0,none⟩),.pointer (some ⟨wm,0,none⟩)]] w (Ow w gb rb ab ob n base B1 K of D):=by
 have HM:=zH hM
 have HA:Hid _:=hA
 have n1:=hM.n1
 have kn:=hM.kn
 have hKn:K≤n:=by omega
 clear hM hA hK kn
 go_enter Tryz.func96,Tryz.ntmps96
 go_wp2_with (first |(go_at_call 121;refine Calls.mono HA.out ?_;rintro e w1 ⟨rfl,kP,AR,AU,vm,mt,hM1,hP1,hT1,hK1,hk1⟩;obtain⟨am,cm,rfl⟩:=ah hT1.own;have Cf:=zH hM1;have fJ:Hid (Hm.P2 n AU.length of kP AR of AU (fun x=>x∈D)):=hP1.two;have HT1:=zH hT1;have VE:=zH hK1;have HKT:Hid (Kp base B1 w w1):=Kt.kp HM.out hk1;have z0:w1.cell? ⟨w.heap.size+1,0,none⟩=some (.slice am mt.length cm):=ae hT1.m;have lz0:=World.block_lt_of_cell? w1 _ z0;have lzg:=(Array.getElem?_eq_some_iff.1 hT1.g).1;have g_:mt.length≤n:=(by have:=q8 AU.length mt hT1.nd (fun x hx=>by obtain⟨f',t',d',h1,_⟩:=(hT1.mem x).1 hx;exact (List.getElem?_eq_some_iff.1 h1).1);have:=hM1.kn;omega);clear hM1 hP1 hT1 hK1 hk1))
 obtain⟨ml,yQ⟩:∃ml,ml=mt.length:=⟨_,rfl⟩
 have BN:=zH yQ
 rw [←yQ]
 rw [←yQ] at g_ z0
 clear yQ
 go_loopg [12] ml (fun gh v wr=>∃(x:Nat) (vY:Value) (K6:List Nat) (yR:List (Nat × Nat × Nat)) (Y:World),Y=wr∧gh=ml - x∧x≤ml∧v=.int .i64 (x:Int)∧Ms Y gb rb ab ob n base B1 vY kP AR K6 yR∧Hm.P2 n AU.length of kP AR K6 yR (fun x=>x∈D)∧(∀g:Nat,(∃f t d,yR[g]?=some (f,t,d)∧0 < d)↔g∈mt.drop x)∧Kp base B1 w1 Y)
 case atStart=>exact⟨0,vL,of,AU,_,rfl,rfl,Nat.zero_le _,rfl,Cf.out,fJ.out,fun g=>by rw [List.drop_zero];exact (HT1.out.mem g).symm,Kp.refl _ _ _⟩
 case round=>
  obtain⟨x,vY,K6,yR,Y,hY,rfl,hx,rfl,wh,Wu,Wv,Ww⟩:=hrel
  subst hY
  have sP:=zH wh
  have SN:=zH Wu
  have KI:=zH Wv
  have Ox:=zH Ww
  clear wh Wu Wv Ww
  by_cases hlt:x < ml
  ·have t1:(x:Int) <(ml:Int):=by omega
   obtain⟨g,hg⟩:∃g,mt[x]?=some g:=⟨_,List.getElem?_eq_getElem (by have:=BN.out;omega)⟩
   have HG:=zH hg
   clear hg
   obtain⟨gm,aai,hv,hgb,hgl,hgc,hcc⟩:=ax HT1.out.own (by have:=BN.out;omega)
   injection hv with hv1 hv2 hv3
   subst hv1
   subst hv3
   clear hv2
   have HBM:Hid (∃cur,w1.heap[gm]?=some (.cells cur 3 (0,0))):=(eZ HT1.out.own).2.2.2
   have cg:Y.cell? ⟨gm,x,none⟩=some (.int .i64 (g:Int)):=by
    obtain⟨cur,hc⟩:=HBM.out
    have hk:=Ox.out.new gm _ (by omega) hc (fun cs z e=>by injection e with _ e;cases e)
    have h1:Y.heap[gm]?=w1.heap[gm]?:=by rw [hk,hc]
    refine (World.cell?_of_block (a:=⟨gm,x,none⟩) h1).trans ?_
    rw [hcc x (by have:=BN.out;omega)]
    have:=eY mt x
    rw [HG.out] at this
    rw [Array.getElem?_toList]
    exact this
   have lgY:gm < Y.heap.size:=World.block_lt_of_cell? Y _ cg
   have cp:Y.cell? ⟨w.heap.size,0,none⟩=some (.pointer (some ⟨gb,0,none⟩)):=ae (Ox.out.new _ _ HT1.out.b1 HT1.out.g (fun cs z e=>by injection e with _ e;cases e))
   have lpY:w.heap.size < Y.heap.size:=World.block_lt_of_cell? Y _ cp
   clear hcc
   have HC:Hid (Calls Tryz.prog 119 #[.pointer (some ⟨gb,0,none⟩),.int .i64 (g:Int)] Y (SL Y gb rb ab ob n base B1 g AU.length of kP AR yR (fun x=>x∈D))):=pG gb rb ab ob n base B1 g AU.length vY of kP AR K6 yR _ Y sP.out SN.out ((KI.out g).2 (by rw [gq HG.out];simp))
   go_wp2_with (first |(go_at_call 119;refine Calls.mono HC.out ?_;rintro e w5 ⟨rfl,v5,SQ,Oy,PU,MF,Wx,Wz⟩;have H5:Hid (Ms w5 gb rb ab ob n base B1 v5 kP AR SQ Oy∧Hm.P2 n AU.length of kP AR SQ Oy (fun x=>x∈D)∧(∀x:Nat,(∃f t d,Oy[x]?=some (f,t,d)∧0 < d)↔(x≠g∧∃f t d,yR[x]?=some (f,t,d)∧0 < d))∧Kp base B1 Y w5):=⟨PU,MF,Wx,Wz⟩;clear PU MF Wx Wz))
   go_roundg (ml -(x+1))
   case measure=>omega
   case rel=>
    refine⟨x+1,v5,SQ,Oy,_,rfl,rfl,by omega,by go_num,H5.out.1,H5.out.2.1,fun y=>?_,Ox.out.trans H5.out.2.2.2⟩
    rw [H5.out.2.2.1 y,KI.out y,gq HG.out]
    have hnd:(g::mt.drop (x+1)).Nodup:=by rw [←gq HG.out];exact HT1.out.nd.sublist (List.drop_sublist _ _)
    have hng:=(List.nodup_cons.1 hnd).1
    constructor
    ·rintro⟨h1,h2⟩
     rcases List.mem_cons.1 h2 with h2 | h2
     ·exact absurd h2 h1
     ·exact h2
    ·intro h1
     exact⟨fun e=>hng (e ▸ h1),List.mem_cons.2 (Or.inr h1)⟩
  ·have t2:decide ((x:Int) <(ml:Int))=false:=decide_eq_false (by omega)
   have hz:∀(g f t d:Nat),yR[g]?=some (f,t,d)→d=0:=fun g f t d hg=>by
    by_cases hd:d=0
    ·exact hd
    ·have:=(KI.out g).1 ⟨f,t,d,hg,by omega⟩
     rw [List.drop_eq_nil_of_le (by have:=BN.out;omega)] at this
     cases this
   have HZ:=zH hz
   clear hz
   go_wp2_with fail
   go_end0
   have hs:=SN.out.done HZ.out fJ.out.pi.ol
   rw [VE.out] at hs
   exact⟨rfl,vY,kP,AR,K6,yR,sP.out,SN.out.again HZ.out,hs,HKT.out.trans Ox.out⟩
theorem om (V:World) (o1 o2:Obj):((V.alloc o1).alloc o2).heap[V.heap.size]?=some o1∧((V.alloc o1).alloc o2).heap[V.heap.size+1]?=some o2∧Only (fun _=>False) V ((V.alloc o1).alloc o2)∧((V.alloc o1).alloc o2).heap.size=V.heap.size+2:=by
 refine⟨pU V o1 o2,?_,((Only.refl _ _).alloc _).alloc _,by simp⟩
 have:=heap_alloc_new (V.alloc o1) o2
 rw [show (V.alloc o1).heap.size=V.heap.size+1 by simp] at this
 exact this
theorem Pt.zero {n:Nat} {row at' of:List Nat} {ls:List (Nat × Nat × Nat)} (h:Hm.Pt n row at' of ls (fun _=>False)) {g f t d:Nat} (hg:ls[g]?=some (f,t,d)):d=0:=by
 obtain⟨h1,h2,h3,h4⟩:=h.sO g f t d hg
 by_cases hd:d=0
 ·exact hd
 ·have rl:=h.rl
  have:=(h4 f _ (Nat.le_refl _) h1 (List.getElem?_eq_getElem (by omega))).2.1 (by omega)
  exact this.elim
theorem St.start {w:World} {gb rb ab ob n base B1 K:Nat} {vL:Value} {row at' of:List Nat} {ls:List (Nat × Nat × Nat)} (hM:Ms w gb rb ab ob n base B1 vL row at' of ls) (hP:Hm.Pt n row at' of ls (fun _=>False)) (hB:B1≤w.heap.size) (hK:ls.length=K):
  St ((w.alloc (.cells #[.pointer (some ⟨gb,0,none⟩)] 155)).alloc (.cells #[.slice none 0 0] 28)) ((w.alloc (.cells #[.pointer (some ⟨gb,0,none⟩)] 155)).alloc (.cells #[.slice none 0 0] 28)) gb rb ab ob n base B1 w.heap.size (w.heap.size+1) K vL of []:=by
 obtain⟨e1,e2,e3,e4⟩:=om w (.cells #[.pointer (some ⟨gb,0,none⟩)] 155) (.cells #[.slice none 0 0] 28)
 refine⟨row,at',ls,.slice none 0 0,[],(hM.alloc _).alloc _,AO hP (fun x=>by simp),⟨e1,e2,⟨rfl,Or.inl ⟨rfl,rfl⟩⟩,hB,by omega,by omega,List.nodup_nil,fun x=>?_⟩,hK,Kt.refl _ _ _ _ _⟩
 constructor
 ·intro h;cases h
 ·rintro⟨f,t,d,h1,h2⟩
  have:=Pt.zero hP h1
  omega
theorem Rd.two {V:World} {B1:Nat} {vL:Value} {a:Option Addr} {m:Nat} {D:List Nat} (h:Rd V B1 V.heap.size vL a m D) (o1 o2:Obj):Rd ((V.alloc o1).alloc o2) B1 (V.heap.size+1) vL a m D:=by
 obtain⟨_,_,e3,e4⟩:=om V o1 o2
 obtain⟨hl,b,off,k1,k2⟩:=h
 refine⟨hl,b,off,fun hm=>?_,fun j x hj=>?_⟩
 ·obtain⟨q1,q2,q3,q4,q5⟩:=k1 hm
  exact⟨q1,by omega,q3,by omega,q5⟩
 ·obtain⟨q1,q2,_⟩:=k1 (by have:=(List.getElem?_eq_some_iff.1 hj).1;omega)
  exact (World.cell?_of_block (a:=⟨b,off+j,none⟩) (e3.block b q2 (fun h=>h))).trans (k2 j x hj)
theorem Bk.two {V:World} {B1 n:Nat} {vL:Value} {a:Option Addr} {bk:Nat→List Nat} (h:Bk V B1 V.heap.size n vL a bk) (o1 o2:Obj):Bk ((V.alloc o1).alloc o2) B1 (V.heap.size+1) n vL a bk:=by
 obtain⟨_,_,e3,e4⟩:=om V o1 o2
 obtain⟨bb,off,q1,q2,q3,q4,q5,q6⟩:=h
 refine⟨bb,off,q1,by omega,q3,by omega,q5,fun z hz=>?_⟩
 obtain⟨a',m,c,k1,k2,k3⟩:=q6 z hz
 exact⟨a',m,c,(World.cell?_of_block (a:=⟨bb,off+z,none⟩) (e3.block bb q2 (fun h=>h))).trans k1,k2.two o1 o2,k3⟩
theorem GX (gb rb ab ob n base B1 K ps m c:Nat) (a:Option Addr) (vL:Value) (row at' of D:List Nat) (ls:List (Nat × Nat × Nat)) (w:World) (hM:Ms w gb rb ab ob n base B1 vL row at' of ls) (hP:Hm.Pt n row at' of ls (fun _=>False)) (hB:B1≤w.heap.size) (hK:ls.length=K)
  (hps:w.cell? ⟨ps,0,none⟩=some (.slice a m c)) (hR:Rd w B1 w.heap.size vL a m D) (hm:m≤100000) (hnd:D.Nodup) (hlt:∀x∈D,x < n):
  Calls Tryz.prog 96 #[.pointer (some ⟨gb,0,none⟩),.func (.func 120) #[] #[.pointer (some ⟨ps,0,none⟩)]] w (Ow w gb rb ab ob n base B1 K of D):=by
 obtain⟨_,_,e3,e4⟩:=om w (.cells #[.pointer (some ⟨gb,0,none⟩)] 155) (.cells #[.slice none 0 0] 28)
 have aaj:=(World.cell?_of_block (a:=⟨ps,0,none⟩) (e3.block ps (World.block_lt_of_cell? w _ hps) (fun h=>h))).trans hps
 have hhi:=hM.hi
 refine Du gb rb ab ob n base B1 K ps vL row at' of D ls w hM hB hK ?_
 have:=uO _ gb rb ab ob n base B1 w.heap.size (w.heap.size+1) K ps vL of [] D a m c _ (St.start hM hP hB hK) (hR.two _ _) aaj hm (by simpa using hnd) hlt (fun b hb=>by
  obtain⟨lb,cap,rfl,_,h2,_⟩:=hM.nl
  injection hb with hb
  have e:lb=b:=hb
  omega) hhi.2.1 hhi.2.2.1
 rw [List.nil_append] at this
 exact this
theorem Dw (gb rb ab ob n base B1 K pgo wm m c mg cg:Nat) (a ag:Option Addr) (bk:Nat→List Nat) (vL:Value) (row at' of G:List Nat) (ls:List (Nat × Nat × Nat)) (w:World) (hM:Ms w gb rb ab ob n base B1 vL row at' of ls) (hP:Hm.Pt n row at' of ls (fun _=>False)) (hB:B1≤w.heap.size) (hK:ls.length=K)
  (hR:Rd w B1 w.heap.size vL ag mg G) (Uq:Bk w B1 w.heap.size n vL a bk) (Yg:w.cell? ⟨pgo,0,none⟩=some (.slice ag mg cg)) (hpb:w.cell? ⟨wm,0,none⟩=some (.slice a m c)) (IA:m=n) (hb1:B1≤wm) (hb3:vL.ownBlock≠some wm) (hm:mg≤100000) (hnd:(G.flatMap bk).Nodup) (hlt:∀x∈G.flatMap bk,x < n) (hG:∀x∈G,x < n):
  Calls Tryz.prog 96 #[.pointer (some ⟨gb,0,none⟩),.func (.func 121) #[] #[.pointer (some ⟨pgo,0,none⟩),.pointer (some ⟨wm,0,none⟩)]] w (Ow w gb rb ab ob n base B1 K of (G.flatMap bk)):=by
 obtain⟨_,_,e3,e4⟩:=om w (.cells #[.pointer (some ⟨gb,0,none⟩)] 155) (.cells #[.slice none 0 0] 28)
 have lpb:=World.block_lt_of_cell? w _ hpb
 have aak:=(World.cell?_of_block (a:=⟨pgo,0,none⟩) (e3.block pgo (World.block_lt_of_cell? w _ Yg) (fun h=>h))).trans Yg
 have aal:=(World.cell?_of_block (a:=⟨wm,0,none⟩) (e3.block wm lpb (fun h=>h))).trans hpb
 have hhi:=hM.hi
 refine Dv gb rb ab ob n base B1 K pgo wm vL row at' of (G.flatMap bk) ls w hM hB hK ?_
 have:=Dt _ gb rb ab ob n base B1 w.heap.size (w.heap.size+1) K pgo wm vL of [] G bk a ag m c mg cg _ (St.start hM hP hB hK) (hR.two _ _) (Uq.two _ _) aak aal IA hb1 (Nat.lt_succ_of_lt lpb) hb3 hm (by simpa using hnd) hlt hG (fun b hb=>by
  obtain⟨lb,cap,rfl,_,h2,_⟩:=hM.nl
  injection hb with hb
  have e:lb=b:=hb
  omega) hhi.2.1 hhi.2.2.1 hM.n1
 rw [List.nil_append] at this
 exact this
theorem a_ {P:Program} {fn:Func} {p u:Tmp} {ty:TypeId} (h:fn.results=#[.cell p ty,.tmp u]) (tmps:Array Value) (w:World) (g:Nat) (t:TypeId) (cs:Array Value) (fr:Nat × Nat) (d:TypeDesc)
  (hp:tmps.getD p undef=.pointer (some ⟨g,0,none⟩)) (hg:w.heap[g]?=some (.cells cs t fr)) (hu:P.underlying ty=some d) (hd:(match d with | .struct _ | .array _ _=>true | _=>false)=true) (hi:(P.info? ty).map (·.size)=some cs.size)
  {y:Value} (hy:tmps.getD u undef=y):(results fn tmps).run P w=.ok (.tuple #[.agg cs,y]) w:=by
 have hp':tmps[p]?.getD undef=.pointer (some ⟨g,0,none⟩):=by simpa using hp
 have hy':tmps[u]?.getD undef=y:=by simpa using hy
 simp [results,h,hp',hy',asAddr,run_loadVar_row w g t ty cs fr d hg hu hd hi]
theorem SS:(Tryz.prog.info? 71).map (·.size)=some 2:=by kernel_rfl
def fH (L:List Nat) (a:Nat × Nat):List Nat:=(L.drop a.1).take (a.2 - a.1)
theorem tK (L:List Nat) (a:Nat × Nat) {j:Nat} (h:j < a.2 - a.1):(fH L a)[j]?=L[a.1+j]?:=by
 unfold fH
 rw [List.getElem?_take,if_pos h,List.getElem?_drop]
theorem uP {L:List Nat} {a:Nat × Nat} (h:a.2≤L.length):(fH L a).length=a.2 - a.1:=by
 unfold fH
 rw [List.length_take,List.length_drop]
 omega
theorem gX {L:List Nat} {a:Nat × Nat} {s:Nat}:s∈fH L a↔∃p,a.1≤p∧p < a.2∧L[p]?=some s:=by
 constructor
 ·intro h
  obtain⟨j,hj⟩:=List.mem_iff_getElem?.1 h
  have hl:=(List.getElem?_eq_some_iff.1 hj).1
  have hj2:j < a.2 - a.1:=by
   unfold fH at hl
   rw [List.length_take] at hl
   omega
  rw [tK L a hj2] at hj
  exact⟨a.1+j,by omega,by omega,hj⟩
 ·rintro⟨p,h1,h2,h3⟩
  refine List.mem_iff_getElem?.2 ⟨p - a.1,?_⟩
  rw [tK L a (by omega),show a.1+(p - a.1)=p by omega]
  exact h3
theorem Oz {L:List Nat} {n:Nat} (hp:L.Perm (List.range n)) (a:Nat × Nat):(fH L a).Nodup∧∀x∈fH L a,x < n:=by
 have hnd:L.Nodup:=hp.nodup_iff.2 List.nodup_range
 refine⟨(hnd.sublist (List.drop_sublist _ _)).sublist (List.take_sublist _ _),fun x hx=>?_⟩
 have:x∈L:=List.mem_of_mem_drop (List.mem_of_mem_take hx)
 simpa using hp.mem_iff.1 this
structure wo (n:Nat) (L:List Nat) (ss:List (Nat × Nat)) (x:Nat) (g:Nat→Nat) (K:Nat):Prop where
 lt:∀s,s < n→g s < K
 iff:∀s t,s < n→t < n→(g s=g t↔∀a∈ss.take x,(s∈fH L a↔t∈fH L a))
theorem wo.start {n:Nat} {L:List Nat} {ss:List (Nat × Nat)} {g:Nat→Nat} (h:∀s,s < n→g s=0):wo n L ss 0 g 1:=
 ⟨fun s hs=>by rw [h s hs];omega,fun s t hs ht=>by rw [h s hs,h t ht];simp⟩
theorem wo.next {n x K K':Nat} {L:List Nat} {ss:List (Nat × Nat)} {g g':Nat→Nat} {a:Nat × Nat} (h:wo n L ss x g K) (ha:ss[x]?=some a) (hs:Hm.Split n g K (fun s=>s∈fH L a) g' K'):wo n L ss (x+1) g' K':=by
 refine⟨hs.lt,fun s t h1 h2=>?_⟩
 rw [hs.iff s t h1 h2,h.iff s t h1 h2,List.take_add_one,ha]
 constructor
 ·rintro⟨e1,e2⟩ b hb
  rcases List.mem_append.1 hb with hb | hb
  ·exact e1 b hb
  ·obtain rfl:b=a:=by simpa using hb
   exact e2
 ·intro e
  exact⟨fun b hb=>e b (List.mem_append.2 (Or.inl hb)),e a (List.mem_append.2 (Or.inr (by simp)))⟩
theorem wo.done {n K:Nat} {O:Nat→Nat} {L:List Nat} {ss:List (Nat × Nat)} {g:Nat→Nat} (h:wo n L ss ss.length g K) (hR:ER n (Vo O L) n n ss) (hp:L.Perm (List.range n)):∀s t,s < n→t < n→(g s=g t↔O s=O t):=fun s t hs ht=>by
 have hl:L.length=n:=by rw [hp.length_eq,List.length_range]
 have place:∀s,s < n→∃p,p < n∧L[p]?=some s:=fun s hs=>by
  have:s∈L:=hp.mem_iff.2 (by simpa using hs)
  obtain⟨p,Z_⟩:=List.mem_iff_getElem?.1 this
  exact⟨p,by rw [←hl];exact (List.getElem?_eq_some_iff.1 Z_).1,Z_⟩
 have one:∀s t,s < n→t < n→O s=O t→∀a∈ss,s∈fH L a→t∈fH L a:=fun s t hs ht e a ha hm=>by
  obtain⟨p,h1,h2,h3⟩:=gX.1 hm
  obtain⟨q,hq,hq2⟩:=place t ht
  have hv:=((hR.sO a ha).2.2 p q h1 h2 hq).1 (by rw [gd h3,gd hq2,e])
  exact gX.2 ⟨q,hv.1,hv.2,hq2⟩
 rw [h.iff s t hs ht,List.take_length]
 constructor
 ·intro e
  obtain⟨p,hpn,hps⟩:=place s hs
  obtain⟨a,ha,h1,h2⟩:=hR.all p hpn
  obtain⟨q,q1,q2,q3⟩:=gX.1 ((e a ha).1 (gX.2 ⟨p,h1,h2,hps⟩))
  have Iy:q < n:=by have:=(hR.sO a ha).2.1;omega
  have hv:=((hR.sO a ha).2.2 p q h1 h2 Iy).2 ⟨q1,q2⟩
  rw [gd hps,gd q3] at hv
  exact hv.symm
 ·intro e a ha
  exact⟨one s t hs ht e a ha,one t s ht hs e.symm a ha⟩
theorem uQ {nx:Nat→Nat} {n t s:Nat}:s∈iy nx n t↔s < n∧nx s=t:=by
 unfold iy
 rw [List.mem_filter]
 simp
theorem uR {nx:Nat→Nat} {n s:Nat} {G:List Nat}:s∈G.flatMap (iy nx n)↔s < n∧nx s∈G:=by
 rw [List.mem_flatMap]
 constructor
 ·rintro⟨t,h1,h2⟩
  obtain⟨h3,h4⟩:=uQ.1 h2
  exact⟨h3,by rw [h4];exact h1⟩
 ·rintro⟨h1,h2⟩
  exact⟨nx s,h2,uQ.2 ⟨h1,rfl⟩⟩
theorem EY {nx:Nat→Nat} {n:Nat}:∀ {G:List Nat},G.Nodup→(G.flatMap (iy nx n)).Nodup
 | [],_=>by simp
 | t::G,h=>by
  obtain⟨h1,h2⟩:=List.nodup_cons.1 h
  rw [List.flatMap_cons]
  refine List.nodup_append.2 ⟨?_,EY h2,fun x hx y hy e=>?_⟩
  ·unfold iy
   exact List.nodup_range.filter _
  ·subst e
   have e1:=(uQ.1 hx).2
   have e2:=(uR.1 hy).2
   rw [e1] at e2
   exact h1 e2
theorem SV {n:Nat} {row at' of:List Nat} {ls:List (Nat × Nat × Nat)} {T:Nat→Prop} (h:Hm.Pt n row at' of ls T):row.Nodup:=by
 refine List.pairwise_iff_getElem.2 (fun i j hi hj hij e=>?_)
 have h1:=(h.ra j _ (List.getElem?_eq_getElem hj)).2
 have h2:=(h.ra i _ (List.getElem?_eq_getElem hi)).2
 rw [e,h1] at h2
 injection h2 with h2
 omega
theorem Dx {n:Nat} {row at' of:List Nat} {ls:List (Nat × Nat × Nat)} {T:Nat→Prop} (h:Hm.Pt n row at' of ls T) {g f t d:Nat} (hg:ls[g]?=some (f,t,d)):(fH row (f,t)).Nodup∧(fH row (f,t)).length=t - f∧(∀x∈fH row (f,t),x < n)∧∀s,s < n→(s∈fH row (f,t)↔of[s]?.getD 0=g):=by
 obtain⟨h1,h2,h3,h4⟩:=h.sO g f t d hg
 have rl:=h.rl
 refine⟨((SV h).sublist (List.drop_sublist _ _)).sublist (List.take_sublist _ _),uP (by show t≤row.length;omega),fun x hx=>?_,fun s hs=>?_⟩
 ·obtain⟨p,_,_,hp⟩:=gX.1 hx
  exact (h.ra p x hp).1
 ·constructor
  ·intro hm
   obtain⟨p,p1,p2,p3⟩:=gX.1 hm
   rw [(h4 p s p1 p2 p3).1]
   rfl
  ·intro e
   obtain⟨g',f',t',d',p,q1,q2,q3,q4,q5,q6,_⟩:=h.find hs
   rw [q1] at e
   have e2:g'=g:=e
   subst e2
   rw [hg] at q2
   injection q2 with q2
   simp only [Prod.mk.injEq] at q2
   exact gX.2 ⟨p,by show f≤p;omega,by show p < t;omega,q4⟩
theorem Split.congr {n K K':Nat} {g g':Nat→Nat} {D D':Nat→Prop} (h:Hm.Split n g K D g' K') (e:∀s,s < n→(D s↔D' s)):Hm.Split n g K D' g' K':=
 ⟨h.le,h.lt,h.new,fun s t hs ht=>by rw [h.iff s t hs ht,e s hs,e t ht]⟩
theorem lH (b o m c:Nat) (D:List Nat) (w:World) (h0:0 < m) (hm:m≤100000) (hD:D.length=m) (hc:∀(j x:Nat),D[j]?=some x→w.cell? ⟨b,o+j,none⟩=some (.int .i64 (x:Int))):
  Calls Tryz.prog 26 #[.slice (some ⟨b,o,none⟩) m c] w fun e w'=>∃g cap,e=.returned (.slice (some ⟨g,0,none⟩) m cap)∧w'.ownsRow w.heap.size 3 1 (.slice (some ⟨g,0,none⟩) m cap) m (nums D).toList∧Only (fun _=>False) w w':=by
 obtain⟨i3,g3,Iq,Ir,Iu⟩:=info_parts info3
 have HC:=zH hc
 have HD:=zH hD
 clear hc hD
 have HOWN:Hid ((w.alloc (.cells #[] 3)).ownsRow w.heap.size 3 1 (.slice (some ⟨w.heap.size,0,none⟩) 0 0) 0 []):=⟨rfl,Or.inr ⟨w.heap.size,0,#[],rfl,Nat.le_refl _,heap_alloc_new w _,Nat.le_refl _,by unfold maxLen;omega,rfl,rfl⟩⟩
 have HN:Hid (∀(j:Nat) (u:Value),(nums D).toList[j]?=some u→(w.alloc (.cells #[] 3)).cell? ((⟨b,o,none⟩:Addr).add j)=some u):=fun j u hj=>by
  rw [Array.getElem?_toList,eY] at hj
  cases hx:D[j]? with
  | none=>rw [hx] at hj;cases hj
  | some x=>
   rw [hx] at hj
   injection hj with hj
   subst hj
   have h1:=HC.out j x hx
   have hb:=World.block_lt_of_cell? w _ h1
   rw [Addr.add_mid]
   exact (World.cell?_of_block (a:=⟨b,o+j,none⟩) (Below.heap_alloc _ _ _ hb)).trans h1
 have hq:∀W,(binOp .eql 28 (.slice (some ⟨b,o,none⟩) m c) (.slice none 0 0)).run Tryz.prog W=.ok (.bool false) W:=fun W=>Lib.run_eql_slice_nil W 28 3 (some ⟨b,o,none⟩) m c 0 0 Tryz.underlying28
 go_enter Tryz.func26,Tryz.ntmps26
 go_wp2_with (first |(at_builtin;refine wpList_append_own_at _ rfl _ _ 28 rfl w.heap.size 3 i3 (.int .i64 0) 1 8 Tryz.underlying28 g3 Iq Ir Iu rfl (by decide) (.slice (some ⟨w.heap.size,0,none⟩) 0 0) 0 [] rfl HOWN.out ⟨b,o,none⟩ m c (nums D).toList rfl (by rw [Array.length_toList,l9,HD.out];omega) HN.out (fun u hu=>by unfold nums at hu;simp at hu;obtain⟨x,_,rfl⟩:=hu;rfl) (by unfold maxLen;omega) (by omega) (by simp) ?_;intro v3 w3 ho3 hg3 _ yG;have fK:Hid (w3.ownsRow w.heap.size 3 1 v3 m (nums D).toList):=(by rw [Nat.zero_add,List.nil_append] at ho3;exact ho3);have GK:Hid (Only (fun _=>False) w w3):=((((Only.refl (fun b=>w.heap.size≤b) w).alloc _).grown hg3 (fun q hq=>by injection hq with hq;subst hq;exact Nat.le_refl _)).old (fun g hg=>Or.inl hg));clear ho3 hg3 yG))
 go_ret
 obtain⟨g,cap,rfl,_⟩:=ax fK.out h0
 exact⟨g,cap,rfl,fK.out,GK.out⟩
theorem Kp.own {base B1 base' e size m:Nat} {w Y:World} {v:Value} {xs:List Value} (h:Kp base B1 w Y) (ho:w.ownsRow base' e size v m xs) (hb:B1≤base') (he:e≠168):Y.ownsRow base' e size v m xs:=by
 obtain⟨hl,ho | ⟨g,cap,cur,hv,h1,h2,h3⟩⟩:=ho
 ·exact⟨hl,Or.inl ho⟩
 ·exact⟨hl,Or.inr ⟨g,cap,cur,hv,h1,h.new g _ (by omega) h2 (fun cs z e2=>by injection e2 with _ e2;exact he e2),h3⟩⟩
theorem Ms.not {Y:World} {gb rb ab ob n base B1 b:Nat} {vY:Value} {row at' of:List Nat} {ls:List (Nat × Nat × Nat)} (hM:Ms Y gb rb ab ob n base B1 vY row at' of ls) {cs:Array Value} {t:Nat} (hb:Y.heap[b]?=some (.cells cs t (0,0))) (ht:t≠168):vY.ownBlock≠some b:=fun e=>by
 obtain⟨lb,cap,rfl,_,_,_,_,_,cur,eT⟩:=hM.nl
 injection e with e
 have e2:lb=b:=e
 subst e2
 rw [eT] at hb
 injection hb with hb
 injection hb with _ hb
 exact ht hb.symm
theorem K7 {Y:World} {gb rb ab ob n base B1 base' m c:Nat} {a:Option Addr} {vY:Value} {row at' of D:List Nat} {ls:List (Nat × Nat × Nat)} (hM:Ms Y gb rb ab ob n base B1 vY row at' of ls) (ho:Y.ownsRow base' 3 1 (.slice a m c) m (nums D).toList) (hl:D.length=m) (hb:B1≤base'):Rd Y B1 Y.heap.size vY a m D:=by
 by_cases h0:0 < m
 ·obtain⟨g,cap,hv,h1,h2,h3,h4⟩:=ax ho h0
  injection hv with hv1 hv2 hv3
  subst hv1
  obtain⟨_,_,_,cur,eT⟩:=eZ ho
  refine⟨hl,g,0,fun _=>⟨rfl,h2,by omega,h2,hM.not eT (by decide)⟩,fun j x hj=>?_⟩
  have hjl:=(List.getElem?_eq_some_iff.1 hj).1
  rw [Nat.zero_add,h4 j (by omega),Array.getElem?_toList,eY,hj]
  rfl
 ·have:D=[]:=List.length_eq_zero_iff.1 (by omega)
  exact⟨hl,0,0,fun h=>absurd h h0,fun j x hj=>by rw [this] at hj;cases hj⟩
theorem Qc {w3 Y:World} {gb rb ab ob n nc base B1 Qd bb c:Nat} {vs:Nat→Value} {nx:Nat→Nat→Nat} {vY:Value} {row at' of:List Nat} {ls:List (Nat × Nat × Nat)} (hM:Ms Y gb rb ab ob n base B1 vY row at' of ls) (hB:V4 w3 Qd n nc nc bb vs nx) (hb3:B1≤Qd) (hK:Kp base B1 w3 Y) (hc:c < nc) (hn:n≤100000):∃bc,vs c=.slice (some ⟨bc,0,none⟩) n n∧Bk Y B1 Y.heap.size n vY (some ⟨bc,0,none⟩) (iy (fun s=>nx s c) n):=by
 obtain⟨bc,vt,e,hbc,hBw⟩:=hB.2 c hc
 have hblk:=hK.new bc _ (by omega) hBw.blk (fun cs z e2=>by injection e2 with _ e2;cases e2)
 have hlt:=(Array.getElem?_eq_some_iff.1 hblk).1
 refine⟨bc,e,bc,0,rfl,hlt,by omega,hlt,hM.not hblk (by decide),fun z hz=>?_⟩
 obtain⟨a',c',ev⟩:=ah (hBw.own z hz)
 have ho:=hK.own (hBw.own z hz) hb3 (by decide)
 rw [ev] at ho
 refine⟨a',_,c',?_,K7 hM ho rfl hb3,Nat.le_trans (Ao _ _ _) hn⟩
 rw [Nat.zero_add,ae hblk,bW _ hz,ev]
end Go.Proofs.YtdlabakleldgaaaGreatDoor.L
