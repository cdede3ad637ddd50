/- LGr LMk Sg5 -/
import Derived.Test.YtdlabakleldgaaaGreatDoorZ00
import Derived.Test.YtdlabakleldgaaaGreatDoorZ34
import Derived.Test.YtdlabakleldgaaaGreatDoorZ30
import Derived.Test.YtdlabakleldgaaaGreatDoorZ18
import Derived.Test.YtdlabakleldgaaaGreatDoorZ25
set_option linter.unusedVariables false
set_option linter.unusedSimpArgs false
set_option maxRecDepth 100000
set_option maxHeartbeats 8000000
namespace Go.Proofs.YtdlabakleldgaaaGreatDoor.L
open Go.RowKit Go.Maps
def Ga (w2 Y:World) (gb rb ab ob n base B1 x:Nat) (L:List Nat) (ss:List (Nat × Nat)):Prop:=∃vY row at' of ls,Ms Y gb rb ab ob n base B1 vY row at' of ls∧Hm.Pt n row at' of ls (fun _=>False)∧wo n L ss x (fun s=>of[s]?.getD 0) ls.length∧Kp base B1 w2 Y
theorem WA {w Y:World} {gb rb ab ob n base B1 b:Nat} {vY:Value} {row at' of:List Nat} {ls:List (Nat × Nat × Nat)} (hM:Ms Y gb rb ab ob n base B1 vY row at' of ls) {L:List Nat} (hN:Nb Y b L) (hb:B1≤b) (a:Nat × Nat) (ha:a.2≤L.length):Rd Y B1 Y.heap.size vY (some ⟨b,a.1,none⟩) (a.2 - a.1) (fH L a):=by
 refine⟨uP ha,b,a.1,fun _=>⟨rfl,hN.lt,hb,hN.lt,fun e=>?_⟩,fun j x hj=>?_⟩
 ·obtain⟨lb,cap,rfl,_,_,_,_,_,cur,eT⟩:=hM.nl
  injection e with e
  have e2:lb=b:=e
  subst e2
  unfold Nb at hN
  rw [eT] at hN
  injection hN with hN
  injection hN with _ hN
  cases hN
 ·have hl:=(List.getElem?_eq_some_iff.1 hj).1
  rw [uP ha] at hl
  rw [tK L a hl] at hj
  exact hN.cell hj
theorem Kp.nb {base B1 b:Nat} {w Y:World} {L:List Nat} (h:Kp base B1 w Y) (hN:Nb w b L) (hb:B1≤b):Nb Y b L:=h.new b _ hb hN (fun cs z e=>by injection e with _ e;cases e)
def Gi (w3 Y:World) (gb rb ab ob n nc base B1 i:Nat) (nx:Nat→Nat→Nat) (O:Nat→Nat):Prop:=∃vY row at' of ls,Ms Y gb rb ab ob n base B1 vY row at' of ls∧Hm.Pt n row at' of ls (fun _=>False)∧i≤ls.length∧Hm.Inv n nc nx (fun s=>of[s]?.getD 0) ls.length i∧Hm.Sound n nc nx O (fun s=>of[s]?.getD 0)∧(∀s t,s < n→t < n→of[s]?.getD 0=of[t]?.getD 0→O s=O t)∧Kp base B1 w3 Y
def Gc (w5 X:World) (gb rb ab ob n nc base B1 i c:Nat) (nx:Nat→Nat→Nat) (O g0:Nat→Nat) (K0:Nat):Prop:=∃vX row at' of ls,Ms X gb rb ab ob n base B1 vX row at' of ls∧Hm.Pt n row at' of ls (fun _=>False)∧Hm.At n nc nx g0 K0 i c (fun s=>of[s]?.getD 0) ls.length∧Hm.Inv n nc nx (fun s=>of[s]?.getD 0) ls.length i∧Hm.Sound n nc nx O (fun s=>of[s]?.getD 0)∧(∀s t,s < n→t < n→of[s]?.getD 0=of[t]?.getD 0→O s=O t)∧Kp base B1 w5 X
theorem AV (n nc bn on cN bo oo co:Nat) (nx:Nat→Nat→Nat) (O:Nat→Nat) (w:World) (h0:0 < n) (hn:n≤100000) (hc:nc≤100000) (hN:MM w n nc bn on nx) (hO:∀s,s < n→w.cell? ⟨bo,oo+s,none⟩=some (.int .u32 (O s:Int))):
  Calls Tryz.prog 77 #[.agg #[.slice (some ⟨bn,on,none⟩) n cN,.slice (some ⟨bo,oo,none⟩) n co]] w fun e w'=>∃ob of,e=.returned (.slice (some ⟨ob,0,none⟩) n n)∧w.heap.size≤ob∧Nb w' ob of∧of.length=n∧(∀s,s < n→of[s]?.getD 0 < n)∧(∀s t,s < n→t < n→(of[s]?.getD 0=of[t]?.getD 0↔Hm.yB nc nx O s t))∧Only (fun _=>False) w w':=by
 have HN:=zH hN
 have HO:=zH hO
 clear hN hO
 go_enter Tryz.func77,Tryz.ntmps77
 go_wp2_with (first |(go_at_call 94;refine (yD n _ h0 hn).mono ?_;rintro e w1 ⟨gb,rb,ab,ob,vL,rfl,hM,ho1⟩;have hAl:(w.alloc (.cells #[.slice (some ⟨bn,on,none⟩) n cN,.slice (some ⟨bo,oo,none⟩) n co] 71)).heap.size=w.heap.size+1:=(by simp);rw [hAl] at hM;have H1:Hid (Ms w1 gb rb ab ob n (w.heap.size+1) w1.heap.size vL (List.range n) (List.range n) (List.replicate n 0) [(0,n,0)]∧Only (fun _=>False) (w.alloc (.cells #[.slice (some ⟨bn,on,none⟩) n cN,.slice (some ⟨bo,oo,none⟩) n co] 71)) w1∧w1.heap[w.heap.size]?=some (.cells #[.slice (some ⟨bn,on,none⟩) n cN,.slice (some ⟨bo,oo,none⟩) n co] 71 (0,0))):=⟨hM,ho1,(ho1.block _ (by rw [hAl];omega) (fun h=>h)).trans (heap_alloc_new w _)⟩;have p0:w1.cell? ⟨w.heap.size,0,none⟩=some (.slice (some ⟨bn,on,none⟩) n cN):=ae H1.out.2.2;have p1:w1.cell? ⟨w.heap.size,1,none⟩=some (.slice (some ⟨bo,oo,none⟩) n co):=ae H1.out.2.2;have lp:=World.block_lt_of_cell? w1 _ p0;have WB:Hid (Only (fun _=>False) w w1):=((Only.refl (fun _=>False) w).alloc _).trans ho1;clear hM ho1 hAl) |(go_at_call 95;refine (Av (some ⟨bn,on,none⟩) n cN n bo oo co O w1 h0 hn (fun s hs=>(World.cell?_of_block (a:=⟨bo,oo+s,none⟩) (WB.out.block bo (World.block_lt_of_cell? w _ (HO.out s hs)) (fun h=>h))).trans (HO.out s hs))).mono ?_;rintro e w2 ⟨b,v,L,ss,rfl,hb,hp,hNb,hR,hown,ho2⟩;obtain⟨av,cv,rfl⟩:=ah hown;obtain⟨ml,g_⟩:∃ml,ml=ss.length:=⟨_,rfl⟩;have H2:Hid (w1.heap.size≤b∧L.Perm (List.range n)∧Nb w2 b L∧ER n (Vo O L) n n ss∧w2.ownsRow (b+1) 28 1 (.slice av ml cv) ml (ss.map (hdr b n))∧Only (fun _=>False) w1 w2∧ml=ss.length):=(by rw [g_];exact⟨hb,hp,hNb,hR,hown,ho2,rfl⟩);have IA:ml≤n:=(by rw [g_];exact hR.len);rw [←g_];clear hb hp hNb hR hown ho2 g_))
 go_loopg [17] ml (fun gh v wr=>∃(x:Nat) (Y:World),Y=wr∧gh=ml - x∧x≤ml∧v=.int .i64 (x:Int)∧Ga w2 Y gb rb ab ob n (w.heap.size+1) w1.heap.size x L ss)
 case atStart=>exact⟨0,_,rfl,rfl,Nat.zero_le _,rfl,vL,_,_,_,_,H1.out.1.keep H2.out.2.2.2.2.2.1 (fun _ h=>h.elim) (fun _ _ h=>h.elim),Sq h0,wo.start (fun s hs=>by rw [List.getElem?_replicate,if_pos hs];rfl),Kp.refl _ _ _⟩
 case round=>
  obtain⟨x,Y,hY,rfl,hx,rfl,hG⟩:=hrel
  subst hY
  have HG:=zH hG
  clear hG
  by_cases hlt:x < ml
  ·have t1:(x:Int) <(ml:Int):=by omega
   obtain⟨vY,row,at',of,ls,hM,hP,Ur,hK⟩:=HG.out
   obtain⟨a,ha⟩:∃a,ss[x]?=some a:=⟨_,List.getElem?_eq_getElem (by have:=H2.out.2.2.2.2.2.2;omega)⟩
   have zn:=hK.own H2.out.2.2.2.2.1 (by have:=H2.out.1;omega) (by decide)
   obtain⟨g,cap,hv,hgl,g_,hcc⟩:=bU zn (by omega)
   injection hv with hv1 hv2 hv3
   subst hv1
   have cx:Y.cell? ⟨g,x,none⟩=some (hdr b n a):=hcc x _ (by rw [List.getElem?_map,ha];rfl)
   have hNY:Nb Y b L:=hK.nb H2.out.2.2.1 H2.out.1
   have hpl:L.length=n:=by rw [H2.out.2.1.length_eq,List.length_range]
   have hseg:=H2.out.2.2.2.1.sO a (List.mem_of_getElem? ha)
   have hB:w1.heap.size≤Y.heap.size:=Nat.le_trans H2.out.2.2.2.2.2.1.size hK.size
   have HC:Hid (Calls Tryz.prog 96 #[.pointer (some ⟨gb,0,none⟩),.func (.func 120) #[] #[.pointer (some ⟨Y.heap.size,0,none⟩)]] (Y.alloc (.cells #[.slice (some ⟨b,a.1,none⟩) (a.2 - a.1) (n - a.1)] 28)) fun e w'=>e=.returned (.tuple #[])∧Ga w2 w' gb rb ab ob n (w.heap.size+1) w1.heap.size (x+1) L ss):=by
    have aam:Nb (Y.alloc (.cells #[.slice (some ⟨b,a.1,none⟩) (a.2 - a.1) (n - a.1)] 28)) b L:=hNY.only ((Only.refl (fun _=>False) Y).alloc _) (fun h=>h)
    have hnd:=Oz H2.out.2.1 a
    refine (GX gb rb ab ob n (w.heap.size+1) w1.heap.size ls.length Y.heap.size (a.2 - a.1) (n - a.1) (some ⟨b,a.1,none⟩) vY row at' of (fH L a) ls _ (hM.alloc _) hP (by simp;omega) rfl (ae (heap_alloc_new Y _)) (WA (w:=Y) (hM.alloc _) aam H2.out.1 a (by omega)) (by omega) hnd.1 hnd.2).mono ?_
    rintro e w' ⟨he,D9,row',GV,of',ls',k1,k2,k3,k4⟩
    exact⟨he,D9,row',GV,of',ls',k1,k2,Ur.next ha k3,(hK.alloc _).trans k4⟩
   unfold hdr at cx
   clear zn hcc hv2 hv3 hNY hseg hM hP Ur hK ha
   go_wp2_with (first |(go_at_call 97;refine (AP _ _ _ _).mono ?_;rintro e w' ⟨rfl,rfl⟩) |(go_at_call 96;refine Calls.mono HC.out ?_;rintro e w5 ⟨rfl,h5⟩;have H5:=zH h5;clear h5))
   go_roundg (ml -(x+1))
   case measure=>omega
   case rel=>exact⟨x+1,_,rfl,rfl,by omega,by go_num,H5.out⟩
  ·have t2:decide ((x:Int) <(ml:Int))=false:=decide_eq_false (by omega)
   obtain rfl:x=ml:=by omega
   obtain⟨vY,row,at',of,ls,hM,hP,Ur,hK⟩:=HG.out
   have hxs:=H2.out.2.2.2.2.2.2
   have hDn:=(by rw [hxs] at Ur;exact Ur:wo n L ss ss.length (fun s=>of[s]?.getD 0) ls.length).done H2.out.2.2.2.1 H2.out.2.1
   have qL:Only (fun _=>False) w w2:=WB.out.trans H2.out.2.2.2.2.2.1
   have ES:Hid (Only (fun _=>False) w Y):=⟨hK.os.trans qL.os,hK.tape.trans qL.tape,hK.output.trans qL.output,Nat.le_trans qL.size hK.size,fun g hg _=>(hK.old g (by omega) (Nat.lt_of_lt_of_le hg qL.size)).trans (qL.block g hg (fun h=>h))⟩
   have lw2:w.heap.size < w2.heap.size:=Nat.lt_of_lt_of_le lp H2.out.2.2.2.2.2.1.size
   have hpa:Y.heap[w.heap.size]?=some (.cells #[.slice (some ⟨bn,on,none⟩) n cN,.slice (some ⟨bo,oo,none⟩) n co] 71 (0,0)):=(hK.old _ (by omega) lw2).trans ((H2.out.2.2.2.2.2.1.block _ lp (fun h=>h)).trans H1.out.2.2)
   have y0:Y.cell? ⟨w.heap.size,0,none⟩=some (.slice (some ⟨bn,on,none⟩) n cN):=ae hpa
   have y1:Y.cell? ⟨w.heap.size,1,none⟩=some (.slice (some ⟨bo,oo,none⟩) n co):=ae hpa
   have lpY:=World.block_lt_of_cell? Y _ y0
   have HS:Hid (Gi Y Y gb rb ab ob n nc (w.heap.size+1) w1.heap.size 0 nx O):=⟨vY,row,at',of,ls,hM,hP,Nat.zero_le _,fun j hj=>by omega,fun s t hs ht he=>(hDn s t hs ht).2 he.out,fun s t hs ht he=>(hDn s t hs ht).1 he,Kp.refl _ _ _⟩
   have HB1:Hid (w1.heap.size≤Y.heap.size):=Nat.le_trans H2.out.2.2.2.2.2.1.size hK.size
   have HX:Hid (∀s c,s < n→c < nc→nx s c < n):=fun s c hs hcc=>by
    obtain⟨a,c',_,h2⟩:=HN.out s hs
    obtain⟨_,_,_,_,h3⟩:=h2 c hcc
    exact h3
   clear hM hP Ur hK hDn qL hpa hxs p0 p1
   go_wp2_with (first |(go_at_call 98;refine (yH (some ⟨bo,oo,none⟩) n co n nc bn on cN nx Y h0 hn hc (HN.out.keep ES.out)).mono ?_;rintro e w3 ⟨bb,vs,rfl,hbb,Uq,ho3⟩;have H3:Hid (Y.heap.size≤bb∧V4 w3 Y.heap.size n nc nc bb vs nx∧Only (fun _=>False) Y w3):=⟨hbb,Uq,ho3⟩;clear hbb Uq ho3))
   go_loopg [7] n (fun gh v wr=>∃(i:Nat) (Z:World),Z=wr∧gh=n - i∧i≤n∧v=.int .i64 (i:Int)∧Gi w3 Z gb rb ab ob n nc (w.heap.size+1) w1.heap.size i nx O)
   case atStart=>
    obtain⟨vY,row,at',of,ls,h1,h2,h3,h4,h5,h6,h7⟩:=HS.out
    exact⟨0,_,rfl,rfl,Nat.zero_le _,rfl,vY,row,at',of,ls,h1.keep H3.out.2.2 (fun _ h=>h.elim) (fun _ _ h=>h.elim),h2,h3,h4,h5,h6,Kp.refl _ _ _⟩
   case round=>
    obtain⟨i,Z,hZ,rfl,hi,rfl,hG⟩:=hrel
    subst hZ
    obtain⟨vZ,row,at',of,ls,hM,hP,hil,hI,hSo,hOu,hK⟩:=hG
    obtain⟨lb,cap,rfl,hlb,hlz,hlc,hcm,hcell,_⟩:=hM.nl
    obtain⟨K,hKK⟩:∃K,K=ls.length:=⟨_,rfl⟩
    have hG:=hM.G
    rw [←hKK] at hG hlc hcell hil
    have hkn:=hM.kn
    have z0:Z.cell? ⟨gb,0,none⟩=some (.slice (some ⟨rb,0,none⟩) n n):=ae hG
    have z2:Z.cell? ⟨gb,2,none⟩=some (.slice (some ⟨ob,0,none⟩) n n):=ae hG
    have z3:Z.cell? ⟨gb,3,none⟩=some (.slice (some ⟨lb,0,none⟩) K cap):=ae hG
    have EN:=hG.lt
    have HZ:Hid (Ms Z gb rb ab ob n (w.heap.size+1) w1.heap.size (.slice (some ⟨lb,0,none⟩) ls.length cap) row at' of ls∧Hm.Pt n row at' of ls (fun _=>False)∧Hm.Inv n nc nx (fun s=>of[s]?.getD 0) ls.length i∧Hm.Sound n nc nx O (fun s=>of[s]?.getD 0)∧(∀s t,s < n→t < n→of[s]?.getD 0=of[t]?.getD 0→O s=O t)∧Kp (w.heap.size+1) w1.heap.size w3 Z∧K=ls.length):=⟨hM,hP,hI,hSo,hOu,hK,hKK⟩
    clear hM hP hI hSo hOu hK hG
    by_cases hlt2:i < K
    ·have t3:(i:Int) <(K:Int):=by omega
     obtain⟨⟨f,t,d⟩,hx3⟩:∃y,ls[i]?=some y:=⟨_,List.getElem?_eq_getElem (by omega)⟩
     have hd0:=Pt.zero HZ.out.2.1 hx3
     subst hd0
     obtain⟨g0,g1,g2⟩:=jF ls i f t 0 hx3
     have c0:Z.cell? ⟨lb,i*3,none⟩=some (.int .i64 (f:Int)):=(hcell _ (by omega)).trans g0
     have c1:Z.cell? ⟨lb,i*3+1,none⟩=some (.int .i64 (t:Int)):=(hcell _ (by omega)).trans g1
     have c2:Z.cell? ⟨lb,i*3+2,none⟩=some (.int .i64 0):=(hcell _ (by omega)).trans g2
     obtain⟨hs1,hs2,hs3,_⟩:=HZ.out.2.1.sO i f t 0 hx3
     have HQ:Hid _:=Dx HZ.out.2.1 hx3
     have K8:Hid (Calls Tryz.prog 99 #[.pointer (some ⟨gb,0,none⟩),.agg #[.int .i64 (f:Int),.int .i64 (t:Int),.int .i64 0]] Z fun y w'=>y=.returned (.slice (some ⟨rb,f,none⟩) (t - f) (n - f))∧Only (fun _=>False) Z w'):=gM gb rb ab ob n f t (t - f) 0 _ Z HZ.out.1.G (by omega) hs2 (by omega) (by omega)
     have SX:Hid (∀w4,Only (fun _=>False) Z w4→∀(j x:Nat),(fH row (f,t))[j]?=some x→w4.cell? ⟨rb,f+j,none⟩=some (.int .i64 (x:Int))):=fun w4 ho j x hj=>by
      have hl:=(List.getElem?_eq_some_iff.1 hj).1
      rw [HQ.out.2.1] at hl
      rw [tK row (f,t) hl] at hj
      exact (HZ.out.1.r.only ho (fun h=>h)).cell hj
     clear g0 g1 g2 hcell hx3
     go_wp2_with (first |(go_at_call 99;refine Calls.mono K8.out ?_;rintro e w4 ⟨rfl,bI⟩;have eD:=zH bI;clear bI) |(go_at_call 26;refine (lH rb f (t - f) (n - f) (fH row (f,t)) w4 (by omega) (by omega) HQ.out.2.1 (SX.out w4 eD.out)).mono ?_;rintro e w5 ⟨gg,cg,rfl,hown5,df⟩;have H5:Hid (w5.ownsRow w4.heap.size 3 1 (.slice (some ⟨gg,0,none⟩) (t - f) cg) (t - f) (nums (fH row (f,t))).toList∧Only (fun _=>False) Z w5):=⟨hown5,eD.out.trans df⟩;clear hown5 df))
     have hBZ:w1.heap.size≤Z.heap.size:=Nat.le_trans (Nat.le_trans HB1.out H3.out.2.2.size) HZ.out.2.2.2.2.2.1.size
     have HK5:Hid (Kp (w.heap.size+1) w1.heap.size w3 w5):=HZ.out.2.2.2.2.2.1.trans (Kp.of H5.out.2 (fun _ h=>h.elim) (fun _ _ h=>h.elim))
     go_loopg [49] nc (fun gh v wr=>∃(c:Nat) (X:World),X=wr∧gh=nc - c∧c≤nc∧v=.int .i64 (c:Int)∧Gc w5 X gb rb ab ob n nc (w.heap.size+1) w1.heap.size i c nx O (fun s=>of[s]?.getD 0) ls.length)
     case atStart=>exact⟨0,_,rfl,rfl,Nat.zero_le _,rfl,_,row,at',of,ls,HZ.out.1.keep H5.out.2 (fun _ h=>h.elim) (fun _ _ h=>h.elim),HZ.out.2.1,Hm.At.start _ _ _,HZ.out.2.2.1,HZ.out.2.2.2.1,HZ.out.2.2.2.2.1,Kp.refl _ _ _⟩
     case round=>
      obtain⟨c,X,hX,rfl,hcn,rfl,vX,OA,Yh,OB,SY,Qe,S9,hAt,S_,Ta,Tc,OC⟩:=hrel
      subst hX
      have HA:Hid (Hm.At n nc nx (fun s=>of[s]?.getD 0) ls.length i c (fun s=>OB[s]?.getD 0) SY.length∧Ms X gb rb ab ob n (w.heap.size+1) w1.heap.size vX OA Yh OB SY∧Hm.Pt n OA Yh OB SY (fun _=>False)∧Hm.Inv n nc nx (fun s=>OB[s]?.getD 0) SY.length i∧Hm.Sound n nc nx O (fun s=>OB[s]?.getD 0)∧(∀s t,s < n→t < n→OB[s]?.getD 0=OB[t]?.getD 0→O s=O t)∧Kp (w.heap.size+1) w1.heap.size w5 X):=⟨hAt,Qe,S9,S_,Ta,Tc,OC⟩
      clear hAt Qe S9 S_ Ta Tc OC
      by_cases hlt3:c < nc
      ·have t5:(c:Int) <(nc:Int):=by omega
       obtain⟨hAt,Qe,S9,S_,Ta,Tc,OC⟩:=HA.out
       have hK3:=HK5.out.trans OC
       have hbb:X.heap[bb]?=some (.cells (rowOf nc vs) 69 (0,0)):=hK3.new bb _ (Nat.le_trans HB1.out H3.out.1) H3.out.2.1.1 (fun cs z e=>by injection e with _ e;cases e)
       obtain⟨bc,hvc,_⟩:=Qc Qe H3.out.2.1 HB1.out hK3 hlt3 hn
       have cb:X.cell? ⟨bb,c,none⟩=some (.slice (some ⟨bc,0,none⟩) n n):=by rw [ae hbb,bW _ hlt3,hvc]
       have ZO:=World.block_lt_of_cell? X _ cb
       have hBX:w1.heap.size≤X.heap.size:=Nat.le_trans (Nat.le_trans hBZ H5.out.2.size) OC.size
       have HC:Hid (Calls Tryz.prog 96 #[.pointer (some ⟨gb,0,none⟩),.func (.func 121) #[] #[.pointer (some ⟨X.heap.size+1,0,none⟩),.pointer (some ⟨X.heap.size,0,none⟩)]] ((X.alloc (.cells #[.slice (some ⟨bc,0,none⟩) n n] 69)).alloc (.cells #[.slice (some ⟨gg,0,none⟩) (t - f) cg] 28)) fun e w'=>e=.returned (.tuple #[])∧Gc w5 w' gb rb ab ob n nc (w.heap.size+1) w1.heap.size i (c+1) nx O (fun s=>of[s]?.getD 0) ls.length):=by
        obtain⟨e1,e2,e3,e4⟩:=om X (.cells #[.slice (some ⟨bc,0,none⟩) n n] 69) (.cells #[.slice (some ⟨gg,0,none⟩) (t - f) cg] 28)
        have hM':=(Qe.alloc (.cells #[.slice (some ⟨bc,0,none⟩) n n] 69)).alloc (.cells #[.slice (some ⟨gg,0,none⟩) (t - f) cg] 28)
        have hK5:=(OC.alloc (.cells #[.slice (some ⟨bc,0,none⟩) n n] 69)).alloc (.cells #[.slice (some ⟨gg,0,none⟩) (t - f) cg] 28)
        obtain⟨bc',AX,Uq⟩:=Qc hM' H3.out.2.1 HB1.out (HK5.out.trans hK5) hlt3 hn
        rw [hvc] at AX
        injection AX with AX
        injection AX with AX
        injection AX with AX
        subst AX
        have hl4:w1.heap.size≤w4.heap.size:=Nat.le_trans hBZ eD.out.size
        have hR:=K7 hM' (hK5.own H5.out.1 hl4 (by decide)) HQ.out.2.1 hl4
        have hGn:∀x∈fH row (f,t),x < n:=HQ.out.2.2.1
        have hcg:∀s,s < n→(s∈(fH row (f,t)).flatMap (iy (fun s=>nx s c) n)↔of[nx s c]?.getD 0=i):=fun s hs=>by
         rw [uR]
         have:=HQ.out.2.2.2 (nx s c) (HX.out s c hs hlt3)
         exact⟨fun h=>this.1 h.2,fun h=>⟨hs,this.2 h⟩⟩
        refine (Dw gb rb ab ob n (w.heap.size+1) w1.heap.size SY.length (X.heap.size+1) X.heap.size n n (t - f) cg (some ⟨bc,0,none⟩) (some ⟨gg,0,none⟩) (iy (fun s=>nx s c) n) vX OA Yh OB (fH row (f,t)) SY _ hM' S9 (by omega) rfl hR Uq (ae e2) (ae e1) rfl hBX (hM'.not e1 (by decide)) (by omega) (EY HQ.out.1) (fun x hx=>(uR.1 hx).1) hGn).mono ?_
        rintro e w' ⟨he,D9,row',GV,of',ls',k1,k2,k3,k4⟩
        have Yi:=Split.congr (D':=fun s=>of[nx s c]?.getD 0=i) k3 hcg
        refine⟨he,D9,row',GV,of',ls',k1,k2,hAt.next Yi,S_.split HX.out (by have:=hAt.le;omega) Yi,Ta.split Yi (fun s t' hs ht he=>?_),fun s t' hs ht he=>Tc s t' hs ht ((Yi.iff s t' hs ht).1 he).1,hK5.trans k4⟩
        have:=HZ.out.2.2.2.1 (nx s c) (nx t' c) (HX.out s c hs hlt3) (HX.out t' c ht hlt3) (he.step hlt3)
        show of[nx s c]?.getD 0=i↔of[nx t' c]?.getD 0=i
        have e5:of[nx s c]?.getD 0=of[nx t' c]?.getD 0:=this
        rw [e5]
       clear hAt Qe S9 S_ Ta Tc OC hK3 hbb hvc
       go_wp2_with (first |(go_at_call 100;refine (AQ _ _ _ _ _ _ _).mono ?_;rintro e w' ⟨rfl,rfl⟩) |(go_at_call 96;refine Calls.mono HC.out ?_;rintro e w7 ⟨rfl,h7⟩;have H7:=zH h7;clear h7))
       go_roundg (nc -(c+1))
       case measure=>omega
       case rel=>exact⟨c+1,_,rfl,rfl,by omega,by go_num,H7.out⟩
      ·have t5:decide ((c:Int) <(nc:Int))=false:=decide_eq_false (by omega)
       have hcc:c=nc:=by omega
       go_wp2_with fail
       go_roundg (n -(i+1))
       case measure=>omega
       case rel=>
        obtain⟨hAt,Qe,S9,S_,Ta,Tc,OC⟩:=HA.out
        have hKl:=HZ.out.2.2.2.2.2.2
        have hle:=hAt.le
        rw [hcc] at hAt
        exact⟨i+1,_,rfl,rfl,by omega,by go_num,vX,OA,Yh,OB,SY,Qe,S9,by omega,hAt.done HX.out (by omega) S_,Ta,Tc,HK5.out.trans OC⟩
    ·have t3:decide ((i:Int) <(K:Int))=false:=decide_eq_false (by omega)
     have hiK:i=K:=by omega
     go_wp2_with fail
     go_ret
     obtain⟨h1,h2,h3,h4,h5,h6,h7⟩:=HZ.out
     have hlt:∀s,s < n→of[s]?.getD 0 < ls.length:=fun s hs=>by
      obtain⟨g,f,t,d,p,q1,q2,_⟩:=h2.find hs
      rw [q1]
      exact (List.getElem?_eq_some_iff.1 q2).1
     have h3':Hm.Inv n nc nx (fun s=>of[s]?.getD 0) ls.length ls.length:=by have e:=hiK.trans h7;rw [e] at h3;exact h3
     refine⟨ob,of,rfl,by have:=h1.lo;omega,h1.o,h2.ol,fun s hs=>by have:=hlt s hs;omega,fun s t hs ht=>⟨fun e wd hwd=>Hm.done HX.out hlt h3' h5 wd hwd s t hs ht e,fun e=>h4 s t hs ht e⟩,?_⟩
     have o3:=ES.out.trans H3.out.2.2
     exact⟨h6.os.trans o3.os,h6.tape.trans o3.tape,h6.output.trans o3.output,Nat.le_trans o3.size h6.size,fun g hg _=>(h6.old g (by omega) (Nat.lt_of_lt_of_le hg o3.size)).trans (o3.block g hg (fun h=>h))⟩
theorem Ra.low {W:World} {lo lo':Nat} {v:Value} {nx:List (List Nat)} {o:List Nat} (h:Ra W lo v nx o) (hl:lo'≤lo):Ra W lo' v nx o:=by
 obtain⟨vX,vO,rows,h1,h2,h3,h4,h5⟩:=h
 exact⟨vX,vO,rows,h1,h2,fA h3 hl,fun i r L hr hL=>fA (h4 i r L hr hL) hl,fA h5 hl⟩
theorem Ra.stay {S:Nat→Prop} {w w':World} {lo:Nat} {v:Value} {nx:List (List Nat)} {o:List Nat} (h:Ra w lo v nx o) (ho:Only S w w') (hS:∀b,S b→b < lo):Ra w' lo v nx o:=by
 obtain⟨vX,vO,rows,h1,h2,h3,h4,h5⟩:=h
 exact⟨vX,vO,rows,h1,h2,aQ h3 ho (fun q hq hs=>by have:=(bz h3 hq).1;have:=hS q hs;omega),fun i r L hr hL=>aQ (h4 i r L hr hL) ho (fun q hq hs=>by have:=(bz (h4 i r L hr hL) hq).1;have:=hS q hs;omega),aQ h5 ho (fun q hq hs=>by have:=(bz h5 hq).1;have:=hS q hs;omega)⟩
def Yj (n nc:Nat) (nx:Nat→Nat→Nat) (O:Nat→Nat) (w:World) (e:Ending) (w':World):Prop:=∃v rows outs r,e=.returned (.tuple #[v,.int .i64 0])∧Ra w' w.heap.size v rows outs∧Hm.iq n nc nx O rows outs r∧Only (fun _=>False) w w'
theorem K9 (n nc bn on cN bo oo co:Nat) (nx:Nat→Nat→Nat) (O:Nat→Nat) (w:World) (h0:0 < n) (hn:n≤100000) (hc:nc≤100000) (hN:MM w n nc bn on nx) (hO:∀s,s < n→w.cell? ⟨bo,oo+s,none⟩=some (.int .u32 (O s:Int))):
  Calls Tryz.prog 56 #[.agg #[.slice (some ⟨bn,on,none⟩) n cN,.slice (some ⟨bo,oo,none⟩) n co]] w (Yj n nc nx O w):=by
 have HN:=zH hN
 have HO:=zH hO
 clear hN hO
 have HT:Hid _:=om w (.cells #[.slice (some ⟨bn,on,none⟩) n cN,.slice (some ⟨bo,oo,none⟩) n co] 71) (.cells #[.slice none 0 0,.slice none 0 0] 71)
 go_enter Tryz.func56,Tryz.ntmps56
 go_wp2_with (go_at_call 75;refine (De _ co n nc bn on cN nx _ h0 hn hc (HN.out.keep HT.out.2.2.1)).mono ?_;rintro e w1 ⟨rfl,ho1⟩;have bu:Hid (Only (fun _=>False) w w1∧w1.heap[w.heap.size]?=some (.cells #[.slice (some ⟨bn,on,none⟩) n cN,.slice (some ⟨bo,oo,none⟩) n co] 71 (0,0))∧w1.heap[w.heap.size+1]?=some (.cells #[.slice none 0 0,.slice none 0 0] 71 (0,0))):=⟨HT.out.2.2.1.trans ho1,(ho1.block w.heap.size (by rw [HT.out.2.2.2];omega) (fun h=>h)).trans HT.out.1,(ho1.block (w.heap.size+1) (by rw [HT.out.2.2.2];omega) (fun h=>h)).trans HT.out.2.1⟩;clear ho1)
 have lw1:w.heap.size+1 < w1.heap.size:=(Array.getElem?_eq_some_iff.1 bu.out.2.2).1
 have lw0:w.heap.size < w1.heap.size:=by omega
 have HK:Hid (∀W,Only (fun b=>b=w.heap.size+1) w1 W→W.cell? ⟨w.heap.size,0,none⟩=some (.slice (some ⟨bn,on,none⟩) n cN)∧W.cell? ⟨w.heap.size,1,none⟩=some (.slice (some ⟨bo,oo,none⟩) n co)):=fun W ho=>by
  have:=(ho.block _ lw0 (by omega)).trans bu.out.2.1
  exact⟨ae this,ae this⟩
 have HR:Hid (∀W,Only (fun _=>False) w1 W→W.heap[w.heap.size+1]?=some (.cells #[.slice none 0 0,.slice none 0 0] 71 (0,0))):=fun W ho=>(ho.block _ lw1 (fun h=>h)).trans bu.out.2.2
 go_region_held3 (fun w'=>w'.cell? ⟨w.heap.size,0,none⟩=some (.slice (some ⟨bn,on,none⟩) n cN)∧w'.cell? ⟨w.heap.size,1,none⟩=some (.slice (some ⟨bo,oo,none⟩) n co)) ((first | exact HK.out _ ((Only.refl (fun b=>b=w.heap.size+1) w1).drew) | exact HK.out _ (((ho3.mono (S':=fun b=>b=w.heap.size+1) (fun _ h=>h.elim)).setCell (p:=⟨w.heap.size+1,0,none⟩) rfl _).setCell (p:=⟨w.heap.size+1,1,none⟩) rfl _) | exact HK.out _ (ho3.mono (S':=fun b=>b=w.heap.size+1) (fun _ h=>h.elim)) | exact HK.out _ (ho2.mono (S':=fun b=>b=w.heap.size+1) (fun _ h=>h.elim)))) ((first |(go_at_call 76;have hgd:=ho2;refine (yN n nc bn on cN bo oo co ob nx O of w2 h0 hn hc (HN.out.keep (bu.out.1.trans ho2)) (fun s hs=>uL (bu.out.1.trans ho2) (HO.out s hs)) HG.out.1 HG.out.2.1 HG.out.2.2.1 HG.out.2.2.2).mono ?_;clear hgd;rintro e w3 ⟨v3,rows,outs,r,rfl,hRa,hL,WC⟩;obtain⟨vX,vO,rws,rfl,hq1,hq2,hq3,hq4⟩:=hRa;obtain⟨aX,kX,rfl⟩:=ah hq2;obtain⟨aO,kO,rfl⟩:=ah hq4;have ho3:Only (fun _=>False) w1 w3:=ho2.trans WC;have H3:Hid (Ra w3 w2.heap.size (.agg #[.slice aX rws.length kX,.slice aO outs.length kO]) rows outs∧Hm.iq n nc nx O rows outs r∧Only (fun _=>False) w1 w3):=⟨⟨_,_,rws,rfl,hq1,hq2,hq3,hq4⟩,hL,ho3⟩;have b3:=HR.out _ ho3;have d0:w3.cell? ⟨w.heap.size+1,0,none⟩=some (.slice none 0 0):=ae b3;have d1:w3.cell? ⟨w.heap.size+1,1,none⟩=some (.slice none 0 0):=ae b3;have f3:∀y,w3.frozen? ⟨w.heap.size+1,y,none⟩=false:=(fun y=>ak b3 y);have l3:w.heap.size+1 < w3.heap.size:=World.block_lt_of_cell? w3 _ d0;clear hq1 hq2 hq3 hq4 hL WC b3) |(go_at_call 77;refine (AV n nc bn on cN bo oo co nx O w1.drew h0 hn hc (HN.out.keep bu.out.1.drew) (fun s hs=>uL bu.out.1.drew (HO.out s hs))).mono ?_;rintro e w2 ⟨ob,of,rfl,Ck,hNb,hol,hlt,hEq,WE⟩;have ho2:Only (fun _=>False) w1 w2:=((Only.refl (fun _=>False) w1).drew).trans WE;have HG:Hid (Nb w2 ob of∧of.length=n∧(∀s,s < n→of[s]?.getD 0 < n)∧(∀s t,s < n→t < n→(of[s]?.getD 0=of[t]?.getD 0↔Hm.yB nc nx O s t))):=⟨hNb,hol,hlt,hEq⟩;clear Ck hNb hol hlt hEq WE)))
 all_goals
  go_wp2_with fail
  have cz:=HR.out _ H3.out.2.2
  refine bodyPost_ret (v:=.tuple #[.agg #[.slice aX rws.length kX,.slice aO outs.length kO],.int .i64 0]) (a_ (p:=2) (u:=3) rfl _ _ (w.heap.size+1) 71 #[.slice aX rws.length kX,.slice aO outs.length kO] (0,0) _ rfl (aa (aa cz _) _) Tryz.underlying71 rfl SS rfl) rfl ?_
  have o1:=((Only.refl (fun b=>b=w.heap.size+1) w3).setCell (p:=⟨w.heap.size+1,0,none⟩) rfl (.slice aX rws.length kX)).setCell (p:=⟨w.heap.size+1,1,none⟩) rfl (.slice aO outs.length kO)
  have hs2:w1.heap.size≤w2.heap.size:=ho2.size
  refine⟨_,rows,outs,r,rfl,(H3.out.1.stay o1 (fun b hb=>by omega)).low (by omega),H3.out.2.1,?_⟩
  exact (((bu.out.1.trans H3.out.2.2).mono (S':=fun b=>b=w.heap.size+1) (fun _ h=>h.elim)).trans o1).old (fun g hg=>Or.inl (by omega))
end Go.Proofs.YtdlabakleldgaaaGreatDoor.L
namespace Go.Proofs.YtdlabakleldgaaaGreatDoor
open Go.RowKit Go.Maps
open Rl (Ex)
theorem Dy {S:Nat→Prop} {w w':World} (h:L.Only S w w'):Only S w w':=⟨h.os,h.tape,h.output,h.size,h.block⟩
theorem fI {S:Nat→Prop} {w w':World} (h:Only S w w'):L.Only S w w':=⟨h.os,h.tape,h.output,h.size,h.block⟩
def dX (nx:List (List Nat)) (s k:Nat):Nat:=(nx[s]?.getD [])[k]?.getD 0
def oX (o:List Nat) (s:Nat):Nat:=o[s]?.getD 0
theorem xk {es:List Ex} {cl:Nat} {nx:List (List Nat)} {o:List Nat} (h:Au.make es (cl:Int)=.ok (nx,o)):0 < nx.length∧nx.length≤300∧o.length=nx.length∧cl≤24∧∀s k,s < nx.length→k < cl→dX nx s k < nx.length:=by
 obtain⟨h1,h2,h3,C8,p,Fd,h4,h5,h6,h7,h8,h9⟩:=Au.GG es cl nx o h
 have hF:=(List.getElem?_eq_some_iff.1 h5).1
 refine⟨by omega,by omega,by omega,by omega,fun s k hs hk=>?_⟩
 obtain⟨S,w,e1,e2,e3,e4,e5⟩:=h9 s (by omega)
 obtain⟨t,f1,f2⟩:=e5 k (by simpa using hk)
 have ht:=(List.getElem?_eq_some_iff.1 f2).1
 unfold dX
 rw [e2]
 show w[k]?.getD 0 < _
 rw [f1]
 show t < _
 omega
theorem OD {W:World} {lo cl:Nat} {v:Value} {nx:List (List Nat)} {o:List Nat} (h:NJ W lo cl v nx o) (h0:0 < nx.length) (ho:o.length=nx.length) (hw:∀s k,s < nx.length→k < cl→dX nx s k < nx.length):
  ∃bn cN bo co,v=.agg #[.slice (some ⟨bn,0,none⟩) nx.length cN,.slice (some ⟨bo,0,none⟩) nx.length co]∧L.MM W nx.length cl bn 0 (dX nx)∧∀s,s < nx.length→W.cell? ⟨bo,0+s,none⟩=some (.int .u32 (oX o s:Int)):=by
 obtain⟨rows,vN,vO,rfl,rfl,h3,h4,h5⟩:=h
 have hrl:0 < rows.length:=by simpa using h0
 obtain⟨g,cap,rfl,hg,hm,hc⟩:=L.bU h3 hrl
 obtain⟨g',cap',rfl,hg',hm',hc'⟩:=L.bU h4 (by omega)
 refine⟨g,cap,g',cap',by rw [ho,List.length_map],fun s hs=>?_,fun s hs=>?_⟩
 ·rw [List.length_map] at hs
  obtain⟨r,hr⟩:∃r,rows[s]?=some r:=⟨_,List.getElem?_eq_getElem hs⟩
  obtain⟨b1,b2,b3⟩:=h5 r (List.mem_of_getElem? hr)
  refine⟨some ⟨r.1,0,none⟩,cl,?_,fun k hk=>⟨r.1,0,rfl,?_,hw s k (by rw [List.length_map];exact hs) hk⟩⟩
  ·rw [Nat.zero_add]
   exact hc s (JN cl r) (by rw [List.getElem?_map,hr];rfl)
  ·rw [Nat.zero_add]
   refine (cell_of_row _ _ _ _ _ _ b2).trans ?_
   rw [qR _ _ _ hk]
   unfold dX
   rw [List.getElem?_map,hr]
   rfl
 ·rw [Nat.zero_add]
  obtain⟨x,hx⟩:∃x,o[s]?=some x:=⟨_,List.getElem?_eq_getElem (by omega)⟩
  unfold oX
  rw [hx]
  exact hc' s (jw x) (by rw [List.getElem?_map,hx];rfl)
theorem Lex.gK {w w':World} {F:Nat→Prop} {es:List Ex} {a:Option Addr} {c:Nat} (h:Lex w F es a c) (ho:Only (fun _=>False) w w'):Lex w' F es a c:=⟨h.1,fun hn=>by
 obtain⟨b,off,e,hb,ht⟩:=h.2 hn
 exact⟨b,off,e,hb,cZ.keep (Kp.only ho (fun _ _ h=>h)) (fun _ h=>h) _ _ _ hb ht⟩⟩
def lfP (w:World) (cl:Nat) (nx:List (List Nat)) (o:List Nat) (e:Ending) (w':World):Prop:=∃v rows outs r,e=.returned (.tuple #[v,.int .i64 0])∧L.Ra w' w.heap.size v rows outs∧L.Hm.iq nx.length cl (dX nx) (oX o) rows outs r∧Only (fun _=>False) w w'
theorem r9 (F:Nat→Prop) (es:List Ex) (a:Option Addr) (c cl:Nat) (nx:List (List Nat)) (o:List Nat) (w:World) (hL:Lex w F es a c) (hF:∀b,F b→b < w.heap.size) (hD:∀e∈es,Au.dp e≤1000000) (hm:Au.make es (cl:Int)=.ok (nx,o)):
  Calls Tryz.prog 33 #[.slice a es.length c,.int .i64 (cl:Int)] w (lfP w cl nx o):=by
 have EG:=fun (w:World) (h:Lex w F es a c) (hF:∀b,F b→b < w.heap.size)=>uz F es a c (cl:Int) w h hF hD
 rw [hm] at EG
 have HK:Hid _:=EG
 have HL:=zH hL
 have HF:=zH hF
 have Us:Hid _:=xk hm
 clear hL hF hD hm EG
 have ho0:Only (fun _=>False) w (w.alloc (.cells #[.slice none 0 0,.slice none 0 0] 71)):=(Only.refl _ _).alloc _
 have iA:=zH ho0
 have HB0:Hid ((w.alloc (.cells #[.slice none 0 0,.slice none 0 0] 71)).heap[w.heap.size]?=some (.cells #[.slice none 0 0,.slice none 0 0] 71 (0,0))):=heap_alloc_new w _
 clear ho0
 go_enter Tryz.func33,Tryz.ntmps33
 go_wp2_with (first |(go_at_call 34;refine (HK.out _ (HL.out.gK iA.out) (fun b hb=>Nat.lt_of_lt_of_le (HF.out b hb) iA.out.size)).mono ?_;rintro e w1 ⟨⟨v,rfl,hA⟩,ho1⟩;have hA:NJ w1 _ cl v nx o:=hA;obtain⟨bn,cN,bo,co,rfl,hN,hO⟩:=OD hA Us.out.1 Us.out.2.2.1 Us.out.2.2.2.2;have xQ:Hid _:=hN;have bu:Hid _:=hO;have H1:Hid (Only (fun _=>False) w w1∧w1.heap[w.heap.size]?=some (.cells #[.slice none 0 0,.slice none 0 0] 71 (0,0))):=⟨iA.out.trans ho1,(ho1.block _ (Array.getElem?_eq_some_iff.1 HB0.out).1 (fun h=>h)).trans HB0.out⟩;clear hA hN hO ho1) |(go_at_call 56;refine (L.K9 nx.length cl bn 0 cN bo 0 co (dX nx) (oX o) _ Us.out.1 (by have:=Us.out.2.1;omega) (by have:=Us.out.2.2.2.1;omega) (L.MM.keep xQ.out ((L.Only.refl (fun _=>False) w1).alloc _)) (fun s hs=>L.uL ((L.Only.refl (fun _=>False) w1).alloc _) (bu.out s hs))).mono ?_;rintro e w3 ⟨v3,rows,outs,r,rfl,hRa,WG,ho3⟩;obtain⟨vX,vO,rws,rfl,hrl,hX,hrw,hOo⟩:=hRa;obtain⟨aX,kX,rfl⟩:=L.ah hX;obtain⟨aO,kO,rfl⟩:=L.ah hOo;have H3:Hid (L.Ra w3 (w1.alloc (.cells #[.slice (some ⟨bn,0,none⟩) nx.length cN,.slice (some ⟨bo,0,none⟩) nx.length co] 71)).heap.size (.agg #[.slice aX rws.length kX,.slice aO outs.length kO]) rows outs∧L.Hm.iq nx.length cl (dX nx) (oX o) rows outs r∧Only (fun _=>False) w1 w3):=⟨⟨_,_,rws,rfl,hrl,hX,hrw,hOo⟩,WG,((Only.refl (fun _=>False) w1).alloc _).trans (Dy ho3)⟩;have cz:w3.heap[w.heap.size]?=some (.cells #[.slice none 0 0,.slice none 0 0] 71 (0,0)):=(H3.out.2.2.block _ (Array.getElem?_eq_some_iff.1 H1.out.2).1 (fun h=>h)).trans H1.out.2;have HR3:=zH cz;have z0:w3.cell? ⟨w.heap.size,0,none⟩=some (.slice none 0 0):=ae cz;have z1:w3.cell? ⟨w.heap.size,1,none⟩=some (.slice none 0 0):=ae cz;have zf:∀x,w3.frozen? ⟨w.heap.size,x,none⟩=false:=fun x=>ak cz x;have zl:w.heap.size < w3.heap.size:=(Array.getElem?_eq_some_iff.1 cz).1;clear hrl hX hrw hOo WG ho3 cz))
 refine bodyPost_ret (v:=.tuple #[.agg #[.slice aX rws.length kX,.slice aO outs.length kO],.int .i64 0]) (L.a_ (p:=4) (u:=5) rfl _ _ w.heap.size 71 #[.slice aX rws.length kX,.slice aO outs.length kO] (0,0) _ rfl (aa (aa HR3.out _) _) Tryz.underlying71 rfl L.SS rfl) rfl ?_
 have o1:=((L.Only.refl (fun b=>b=w.heap.size) w3).setCell (p:=⟨w.heap.size,0,none⟩) rfl (.slice aX rws.length kX)).setCell (p:=⟨w.heap.size,1,none⟩) rfl (.slice aO outs.length kO)
 have hs1:w.heap.size≤w1.heap.size:=H1.out.1.size
 have hl1:=(Array.getElem?_eq_some_iff.1 H1.out.2).1
 refine⟨_,rows,outs,r,rfl,(H3.out.1.stay o1 (fun b hb=>by simp;omega)).low (by simp;omega),H3.out.2.1,?_⟩
 exact (((H1.out.1.trans H3.out.2.2).mono (S':=fun b=>b=w.heap.size) (fun _ h=>h.elim)).trans (Dy o1)).old (fun g hg=>Or.inl (by omega))
end Go.Proofs.YtdlabakleldgaaaGreatDoor
