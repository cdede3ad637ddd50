/- LPe LEa -/
import Derived.Test.YtdlabakleldgaaaGreatDoorZ00
import Derived.Test.YtdlabakleldgaaaGreatDoorZ32
import Derived.Deep.RegionLaw
import Derived.Deep.RegionWith
import Derived.Test.YtdlabakleldgaaaGreatDoorZ31
set_option linter.unusedVariables false
set_option linter.unusedSimpArgs false
set_option maxRecDepth 100000
set_option maxHeartbeats 8000000
namespace Go.Proofs.YtdlabakleldgaaaGreatDoor.L
open Go.RowKit Go.Maps
theorem Dr (gb rb ab ob n base B1 i f t d q r K:Nat) (lb cap:Nat) (row at' of:List Nat) (ls:List (Nat × Nat × Nat)) (w:World) (hM:Ms w gb rb ab ob n base B1 (.slice (some ⟨lb,0,none⟩) ls.length cap) row at' of ls) (hl:ls[i]?=some (f,t,d)) (hd:0 < d) (hq:q=f+d) (ht:t=q+r) (htn:t≤n) (hlt:d < r) (hK:K=ls.length) (T:Nat→Prop) (K0:Nat) (jf:List Nat) (hP2:Hm.P2 n K0 jf row at' of ls T):Calls Tryz.prog 119 #[.pointer (some ⟨gb,0,none⟩),.int .i64 (i:Int)] w fun e w'=>e=.returned (.tuple #[])∧∃lb' cap' of' ls',Ms w' gb rb ab ob n base B1 (.slice (some ⟨lb',0,none⟩) ls'.length cap') row at' of' ls'∧Hm.P2 n K0 jf row at' of' ls' T∧(∀x:Nat,(∃f t d,ls'[x]?=some (f,t,d)∧0 < d)↔(x≠i∧∃f t d,ls[x]?=some (f,t,d)∧0 < d))∧Kp base B1 w w':=by
 have hil:=(List.getElem?_eq_some_iff.1 hl).1
 obtain⟨q0,q1,q2⟩:=jF ls i f t d hl
 obtain⟨lb',cap',hv,GR,AA,hcap,m_,hcell,cur,eT⟩:=hM.nl
 injection hv with hv1 hv2 hv3
 injection hv1 with hv1
 injection hv1 with hv1
 subst hv1
 subst hv3
 clear hv2
 have n1:=hM.n1
 have kn:=hM.kn
 rw [←hK] at hcap kn hil
 unfold maxLen at m_
 have z3:w.cell? ⟨gb,3,none⟩=some (.slice (some ⟨lb,0,none⟩) K cap):=by rw [hK];exact ae hM.G
 have z5:w.cell? ⟨lb,i*3,none⟩=some (.int .i64 (f:Int)):=(hcell _ (by omega)).trans q0
 have z6:w.cell? ⟨lb,i*3+1,none⟩=some (.int .i64 (t:Int)):=(hcell _ (by omega)).trans q1
 have z7:w.cell? ⟨lb,i*3+2,none⟩=some (.int .i64 (d:Int)):=(hcell _ (by omega)).trans q2
 have EN:=hM.G.lt
 have HM:=zH hM
 have HF:Hid (ls[i]?=some (f,t,d)∧K=ls.length∧q=f+d∧t=q+r):=⟨hl,hK,hq,ht⟩
 have EX:Hid (Hm.Pi n row at' of ls T):=hP2.pi
 have iC:=zH hP2
 have i1:(i:Int) <(K:Int):=by omega
 have s2:(f:Int)+(d:Int)=(q:Int):=by omega
 have Iy:q≤n:=by omega
 have hdn:d≤n:=by omega
 have hrn:r≤n:=by omega
 have d1:(d:Int) <(r:Int):=by omega
 clear hM hl hcell eT q0 q1 q2 hK hq ht hP2
 go_enter Tryz.func119,Tryz.ntmps119
 go_wp2_with fail
 go_cut [6,7] from 22 to 29 (fun v6 v7 wr=>∃(ga sa:Nat) (W:World),W=wr∧v6=.pointer (some ⟨ga,0,none⟩)∧v7=.pointer (some ⟨sa,0,none⟩)∧W.heap[ga]?=some (.cells #[.int .i64 (f:Int),.int .i64 (q:Int),.int .i64 0] 168 (0,0))∧W.heap[sa]?=some (.cells #[.int .i64 (q:Int),.int .i64 (t:Int),.int .i64 0] 168 (0,0))∧ga≠sa∧w.heap.size≤ga∧w.heap.size≤sa∧Only (fun _=>False) w W)
 case first=>
  go_region
  all_goals
   go_wp2_with fail
   go_meet
   case rel=>first
    | exact⟨_,_,_,rfl,rfl,rfl,rf _ _ _ _,mo _ _ _ _,by omega,by omega,by omega,((((Only.refl _ _).alloc _).alloc _).alloc _).drew⟩
    | exact⟨_,_,_,rfl,rfl,rfl,mo _ _ _ _,rf _ _ _ _,by omega,by omega,by omega,((((Only.refl _ _).alloc _).alloc _).alloc _).drew⟩
 case rest=>
  obtain⟨ga,sa,W,hW,e6,e7,hga,hsa,hne,hg1,hs1,ho⟩:=hcut
  subst hW
  subst e6
  subst e7
  have IB:=zH hga
  have BO:=zH hsa
  have HOW:=zH ho
  clear hga hsa ho z3 z5 z6 z7 s2
  have AL:Hid (∀W',Only (fun _=>False) W W'→W'.cell? ⟨ga,0,none⟩=some (.int .i64 (f:Int))∧W'.cell? ⟨ga,1,none⟩=some (.int .i64 (q:Int))∧W'.cell? ⟨ga,2,none⟩=some (.int .i64 0)∧W'.cell? ⟨sa,0,none⟩=some (.int .i64 (q:Int))∧W'.cell? ⟨sa,1,none⟩=some (.int .i64 (t:Int))∧W'.cell? ⟨sa,2,none⟩=some (.int .i64 0)):=fun W' ho=>by
   have h1:=(ho.block ga (Array.getElem?_eq_some_iff.1 IB.out).1 (fun h=>h)).trans IB.out
   have h2:=(ho.block sa (Array.getElem?_eq_some_iff.1 BO.out).1 (fun h=>h)).trans BO.out
   exact⟨ae h1,ae h1,ae h1,ae h2,ae h2,ae h2⟩
  obtain⟨a0,a1,a2,b0,b1,b2⟩:=AL.out W (Only.refl _ _)
  go_wp2_with fail
  go_cut [34] from 30 to 34 (fun v wr=>∃(W':World),W'=wr∧v=.bool true∧Only (fun _=>False) W W')
  case first=>
   go_region_held3 (fun W'=>W'.cell? ⟨ga,0,none⟩=some (.int .i64 (f:Int))∧W'.cell? ⟨ga,1,none⟩=some (.int .i64 (q:Int))∧W'.cell? ⟨ga,2,none⟩=some (.int .i64 0)∧W'.cell? ⟨sa,0,none⟩=some (.int .i64 (q:Int))∧W'.cell? ⟨sa,1,none⟩=some (.int .i64 (t:Int))∧W'.cell? ⟨sa,2,none⟩=some (.int .i64 0)) (first | exact AL.out _ (Only.refl _ _).drew | exact AL.out _ (((Only.refl _ _).drew).alloc _) | exact AL.out _ ((((Only.refl _ _).drew).alloc _).alloc _)) (first |(go_at_call 132;refine Calls.mono (dA f q d _ HF.out.2.2.1 (by omega)) ?_;rintro e w9 ⟨rfl,rfl⟩) |(go_at_call 132;refine Calls.mono (dA q t r _ HF.out.2.2.2 (by omega)) ?_;rintro e w9 ⟨rfl,rfl⟩) | fail)
   all_goals
    go_wp2_with fail
    go_meet
    case rel=>exact⟨_,rfl,rfl,(((Only.refl _ _).drew).alloc _).alloc _⟩
  case rest=>
   obtain⟨V,hV,e34,w_⟩:=hcut
   subst hV
   subst e34
   have KY:Hid (Only (fun _=>False) w V):=HOW.out.trans w_
   have uM:=zH w_
   clear a0 a1 a2 b0 b1 b2 w_
   obtain⟨a0,a1,a2,b0,b1,b2⟩:=AL.out V uM.out
   have Dk:Hid (Ms V gb rb ab ob n base B1 (.slice (some ⟨lb,0,none⟩) ls.length cap) row at' of ls):=HM.out.keep KY.out (fun _ h=>h.elim) (fun _ _ h=>h.elim)
   obtain⟨z3,z5,z6,z7,fz⟩:=Dk.out.reads HF.out.1
   rw [←HF.out.2.1] at z3
   have Dl:=Dk.out.G.lt
   have Dm:=World.block_lt_of_cell? V _ a0
   have vV:=World.block_lt_of_cell? V _ b0
   have Dp:=World.block_lt_of_cell? V _ z5
   have fga:∀x,V.frozen? ⟨ga,x,none⟩=false:=fun x=>ak ((uM.out.block ga (Array.getElem?_eq_some_iff.1 IB.out).1 (fun h=>h)).trans IB.out) x
   have fsa:∀x,V.frozen? ⟨sa,x,none⟩=false:=fun x=>ak ((uM.out.block sa (Array.getElem?_eq_some_iff.1 BO.out).1 (fun h=>h)).trans BO.out) x
   go_wp2_with fail
   obtain⟨X,hX⟩:∃X,X=((((((V.setCell ⟨ga,0,none⟩ (.int .i64 (q:Int))).setCell ⟨ga,1,none⟩ (.int .i64 (t:Int))).setCell ⟨ga,2,none⟩ (.int .i64 0)).setCell ⟨sa,0,none⟩ (.int .i64 (f:Int))).setCell ⟨sa,1,none⟩ (.int .i64 (q:Int))).setCell ⟨sa,2,none⟩ (.int .i64 0)):=⟨_,rfl⟩
   have Wq:V.heap[ga]?=some (.cells #[.int .i64 (f:Int),.int .i64 (q:Int),.int .i64 0] 168 (0,0)):=(uM.out.block ga (Array.getElem?_eq_some_iff.1 IB.out).1 (fun h=>h)).trans IB.out
   have Ws:V.heap[sa]?=some (.cells #[.int .i64 (q:Int),.int .i64 (t:Int),.int .i64 0] 168 (0,0)):=(uM.out.block sa (Array.getElem?_eq_some_iff.1 BO.out).1 (fun h=>h)).trans BO.out
   have HGX:Hid (X.heap[ga]?=some (.cells #[.int .i64 (q:Int),.int .i64 (t:Int),.int .i64 0] 168 (0,0))):=by
    rw [hX]
    refine (Below.heap_setCell _ _ _ _ hne).trans ((Below.heap_setCell _ _ _ _ hne).trans ((Below.heap_setCell _ _ _ _ hne).trans ?_))
    exact aa (aa (aa Wq _) _) _
   have Qb:Hid (X.heap[sa]?=some (.cells #[.int .i64 (f:Int),.int .i64 (q:Int),.int .i64 0] 168 (0,0))):=by
    rw [hX]
    refine aa (aa (aa ((Below.heap_setCell _ _ _ _ hne.symm).trans ((Below.heap_setCell _ _ _ _ hne.symm).trans ((Below.heap_setCell _ _ _ _ hne.symm).trans Ws))) _) _) _
   have XO:Hid (Only (fun b=>b=ga∨b=sa) V X):=by
    rw [hX]
    exact ((((((Only.refl (fun b=>b=ga∨b=sa) V).setCell (p:=⟨ga,0,none⟩) (Or.inl rfl) _).setCell (p:=⟨ga,1,none⟩) (Or.inl rfl) _).setCell (p:=⟨ga,2,none⟩) (Or.inl rfl) _).setCell (p:=⟨sa,0,none⟩) (Or.inr rfl) _).setCell (p:=⟨sa,1,none⟩) (Or.inr rfl) _).setCell (p:=⟨sa,2,none⟩) (Or.inr rfl) _
   rw [←hX]
   clear hX Wq Ws fga fsa a0 a1 a2 b0 b1 b2 z3 z5 z6 z7 fz Dl Dm vV Dp
   have Wt:Hid (Only (fun _=>False) w X):=((KY.out.mono (fun _ h=>h.elim)).trans XO.out).old (fun g hg=>Or.inl (by rcases hg with rfl | rfl <;> omega))
   have aae:Hid (Ms X gb rb ab ob n base B1 (.slice (some ⟨lb,0,none⟩) ls.length cap) row at' of ls):=HM.out.keep Wt.out (fun _ h=>h.elim) (fun _ _ h=>h.elim)
   clear Dk KY
   have Dk:=aae
   have KY:=Wt
   obtain⟨z3,z5,z6,z7,fz⟩:=Dk.out.reads HF.out.1
   rw [←HF.out.2.1] at z3
   have a0:X.cell? ⟨ga,0,none⟩=some (.int .i64 (q:Int)):=ae HGX.out
   have a1:X.cell? ⟨ga,1,none⟩=some (.int .i64 (t:Int)):=ae HGX.out
   have a2:X.cell? ⟨ga,2,none⟩=some (.int .i64 0):=ae HGX.out
   have b0:X.cell? ⟨sa,0,none⟩=some (.int .i64 (f:Int)):=ae Qb.out
   have b1:X.cell? ⟨sa,1,none⟩=some (.int .i64 (q:Int)):=ae Qb.out
   have b2:X.cell? ⟨sa,2,none⟩=some (.int .i64 0):=ae Qb.out
   have Dl:=Dk.out.G.lt
   have Dm:=World.block_lt_of_cell? X _ a0
   have vV:=World.block_lt_of_cell? X _ b0
   have Dp:=World.block_lt_of_cell? X _ z5
   go_region
   obtain⟨V2,hV2⟩:∃V2,V2=(((X.setCell ⟨lb,i*3,none⟩ (.int .i64 (q:Int))).setCell ⟨lb,i*3+1,none⟩ (.int .i64 (t:Int))).setCell ⟨lb,i*3+2,none⟩ (.int .i64 0)).drew:=⟨_,rfl⟩
   have Im:Hid (Ms V2 gb rb ab ob n base B1 (.slice (some ⟨lb,0,none⟩) (ls.set i (q,t,0)).length cap) row at' of (ls.set i (q,t,0))):=by rw [hV2];exact (Dk.out.put (by have:=HF.out.2.1;omega)).drew
   have aK:Hid (Only (fun b=>b=lb) X V2):=by rw [hV2];exact ((((Only.refl (fun b=>b=lb) X).setCell (p:=⟨lb,i*3,none⟩) rfl _).setCell (p:=⟨lb,i*3+1,none⟩) rfl _).setCell (p:=⟨lb,i*3+2,none⟩) rfl _).drew
   rw [←hV2]
   clear hV2
   have Dq:sa≠lb:=by omega
   have x_:Hid (V2.heap[sa]?=some (.cells #[.int .i64 (f:Int),.int .i64 (q:Int),.int .i64 0] 168 (0,0))):=(aK.out.block sa vV Dq).trans Qb.out
   have KZ:Hid (Only (fun b=>b=lb) w V2):=(KY.out.mono (fun _ h=>h.elim)).trans aK.out
   clear a0 a1 a2 b0 b1 b2 z3 z5 z6 z7 fz Dl Dm vV Dp
   have b0:V2.cell? ⟨sa,0,none⟩=some (.int .i64 (f:Int)):=ae x_.out
   have b1:V2.cell? ⟨sa,1,none⟩=some (.int .i64 (q:Int)):=ae x_.out
   have b2:V2.cell? ⟨sa,2,none⟩=some (.int .i64 0):=ae x_.out
   have v_:sa < V2.heap.size:=World.block_lt_of_cell? V2 _ b0
   have SF:=Im.out.G.lt
   have m1:¬(d:Int)=0:=by omega
   have m2:((d:Int)==0)=false:=by simpa using m1
   have hKs:(ls.set i (q,t,0)).length=K:=by rw [List.length_set];exact HF.out.2.1.symm
   have Ot:=zH hKs
   have hc1:f < n:=by have:=HF.out.2.2.1;have:=HF.out.2.2.2;omega
   clear hKs
   go_wp2_with (first |(go_at_call 132;refine Calls.mono (dA f q d V2 (HF.out.2.2.1) (by omega)) ?_;rintro e w9 ⟨rfl,rfl⟩;have c0:(V2.alloc (.cells #[.int .i64 (f:Int),.int .i64 (q:Int),.int .i64 0] 168)).cell? ⟨sa,0,none⟩=some (.int .i64 (f:Int)):=(World.cell?_alloc_lt _ _ _ v_).trans b0;have c1:(V2.alloc (.cells #[.int .i64 (f:Int),.int .i64 (q:Int),.int .i64 0] 168)).cell? ⟨sa,1,none⟩=some (.int .i64 (q:Int)):=(World.cell?_alloc_lt _ _ _ v_).trans b1;have c2:(V2.alloc (.cells #[.int .i64 (f:Int),.int .i64 (q:Int),.int .i64 0] 168)).cell? ⟨sa,2,none⟩=some (.int .i64 0):=(World.cell?_alloc_lt _ _ _ v_).trans b2) |(go_at_call 99;refine Calls.mono (gM gb rb ab ob n f q d 0 _ _ (Im.out.alloc _).G (HF.out.2.2.1) (by omega) hc1 (by omega)) ?_;rintro e wU ⟨rfl,K4⟩;have sK:Hid (Only (fun _=>False) V2 wU):=((Only.refl _ _).alloc _).trans K4;clear K4))
   obtain⟨V3,SG⟩:∃V3,V3=wU:=⟨_,rfl⟩
   rw [←SG] at sK
   rw [←SG]
   clear SG c0 c1 c2 b0 b1 b2
   have FQ:Hid (Ms V3 gb rb ab ob n base B1 (.slice (some ⟨lb,0,none⟩) (ls.set i (q,t,0)).length cap) row at' of (ls.set i (q,t,0))):=Im.out.keep sK.out (fun _ h=>h.elim) (fun _ _ h=>h.elim)
   have uy:Hid (V3.heap[sa]?=some (.cells #[.int .i64 (f:Int),.int .i64 (q:Int),.int .i64 0] 168 (0,0))):=(sK.out.block sa v_ (fun h=>h)).trans x_.out
   have SH:Hid (sa≠ob∧sa≠gb∧sa≠lb∧lb < w.heap.size∧w.heap.size≤sa):=by
    refine⟨fun e=>?_,fun e=>?_,Dq,AA,hs1⟩
    ·have:=FQ.out.o
     unfold Nb at this
     rw [←e,uy.out] at this
     injection this with this
     injection this with _ this
     cases this
    ·have:=FQ.out.G
     unfold Gb at this
     rw [←e,uy.out] at this
     injection this with this
     injection this with _ this
     cases this
   have IA:d≤n:=by omega
   have hcn:f+d≤n:=by have:=HF.out.2.2.1;have:=HF.out.2.2.2;omega
   go_loopg [51] d (fun gh v wr=>∃(x:Nat) (uN:List Nat) (Y:World),Y=wr∧gh=d - x∧x≤d∧v=.int .i64 (x:Int)∧Ms Y gb rb ab ob n base B1 (.slice (some ⟨lb,0,none⟩) (ls.set i (q,t,0)).length cap) row at' uN (ls.set i (q,t,0))∧uN.length=n∧(∀p s:Nat,row[p]?=some s→uN[s]?=if f≤p∧p < f+x then some K else of[s]?)∧Only (fun b=>b=ob) V3 Y)
   case atStart=>exact⟨0,of,_,rfl,rfl,Nat.zero_le _,rfl,FQ.out,EX.out.ol,fun p s hp=>by rw [if_neg (by omega)],Only.refl _ _⟩
   case round=>
    obtain⟨x,uN,Y,hY,rfl,hx,rfl,wh,hol,hof,zn⟩:=hrel
    subst hY
    have sP:=zH wh
    have GU:Hid (uN.length=n∧∀p s:Nat,row[p]?=some s→uN[s]?=if f≤p∧p < f+x then some K else of[s]?):=⟨hol,hof⟩
    have ES:=zH zn
    have g2:Y.cell? ⟨gb,2,none⟩=some (.slice (some ⟨ob,0,none⟩) n n):=ae wh.G
    have g3:Y.cell? ⟨gb,3,none⟩=some (.slice (some ⟨lb,0,none⟩) K cap):=by rw [←Ot.out];exact ae wh.G
    have SI:=wh.G.lt
    have aab:=wh.r.lt
    have aac:=wh.o.lt
    clear wh hol hof zn
    by_cases hlt2:x < d
    ·have t1:(x:Int) <(d:Int):=by omega
     have hrl:=EX.out.rl
     obtain⟨u,hu⟩:∃u,row[f+x]?=some u:=⟨_,List.getElem?_eq_getElem (by omega)⟩
     have HU:=zH hu
     have cu:=sP.out.r.cell hu
     have hun:u < n:=(EX.out.ra _ _ hu).1
     have iu:(u:Int) <(n:Int):=by omega
     obtain⟨y1,hy1⟩:∃y1,uN[u]?=some y1:=⟨_,List.getElem?_eq_getElem (by have:=GU.out.1;omega)⟩
     have co:=sP.out.o.cell hy1
     have fo:∀z,Y.frozen? ⟨ob,z,none⟩=false:=fun z=>sP.out.o.fz z
     clear hu hrl hy1
     go_wp2_with fail
     go_region
     all_goals
      go_wp2_with fail
      go_roundg (d -(x+1))
      case measure=>omega
      case rel=>
       refine⟨x+1,uN.set u K,_,rfl,rfl,by omega,by go_num,sP.out.of'.drew,by rw [List.length_set];exact GU.out.1,fun p s hp=>?_,((ES.out.setCell (p:=⟨ob,u,none⟩) rfl _).drew)⟩
       have SA:u < uN.length:=by have:=GU.out.1;omega
       rw [Hm.mh SA]
       by_cases e:u=s
       ·subst e
        rw [if_pos rfl]
        have h1:=(EX.out.ra p u hp).2
        have h2:=(EX.out.ra _ u HU.out).2
        rw [h1] at h2
        injection h2 with h2
        rw [if_pos (by omega)]
       ·rw [if_neg e,GU.out.2 p s hp]
        have:p≠f+x:=fun e2=>e (by rw [e2,HU.out] at hp;injection hp)
        by_cases h1:f≤p∧p < f+x
        ·rw [if_pos h1,if_pos (by omega)]
        ·rw [if_neg h1,if_neg (by omega)]
    ·have t2:decide ((x:Int) <(d:Int))=false:=decide_eq_false (by omega)
     have hxm:=Nat.le_antisymm hx (Nat.le_of_not_lt hlt2)
     subst hxm
     have SK:Hid (Y.heap[sa]?=some (.cells #[.int .i64 (f:Int),.int .i64 (q:Int),.int .i64 0] 168 (0,0))):=(ES.out.block sa (Array.getElem?_eq_some_iff.1 uy.out).1 SH.out.1).trans uy.out
     have b0:Y.cell? ⟨sa,0,none⟩=some (.int .i64 (f:Int)):=ae SK.out
     have b1:Y.cell? ⟨sa,1,none⟩=some (.int .i64 (q:Int)):=ae SK.out
     have b2:Y.cell? ⟨sa,2,none⟩=some (.int .i64 0):=ae SK.out
     have aad:=World.block_lt_of_cell? Y _ b0
     obtain⟨i6,g6,g60,g61,g62⟩:=info_parts KX
     have hown:Hid (Y.ownsRow base 168 3 (.slice (some ⟨lb,0,none⟩) K cap) K (jY (ls.set i (q,t,0)))):=by have:=sP.out.L;rw [Ot.out] at this;exact this
     have hbY:base≤Y.heap.size:=by have:=sP.out.lo.1;omega
     go_wp2_with fail
     go_region_law (refine step_append_lies _ (by rfl) _ _ _ (by rfl) base 168 i6 _ 3 24 Tryz.underlying163 g6 g60 g61 g62 rfl (by decide) (.slice (some ⟨lb,0,none⟩) K cap) K (jY (ls.set i (q,t,0))) (by rfl) (by exact hown.out.alloc _) ⟨Y.heap.size,0,none⟩ 1 1 (gc (f,q,0)) (by rfl) rfl (World.news_of_block (cs:=#[.int .i64 (f:Int),.int .i64 (q:Int),.int .i64 0]) (heap_alloc_new Y (.cells #[.int .i64 (f:Int),.int .i64 (q:Int),.int .i64 0] 168))) (fun u hu=>by simp [gc] at hu;rcases hu with rfl | rfl | rfl <;> rfl) (by decide) (by unfold maxLen;omega) (by omega) (by simp;omega) (Y.heap.size+1) (by simp) ?_;intro g5 cap5 w5 hown5 gV jT vP;have oG:Hid (Only (fun b=>b=lb) Y w5):=(((Only.refl (fun b=>b=lb) Y).alloc _).drew).grown gV (fun k hk=>by injection hk with hk;exact hk.symm);have HW5:=zH hown5;have hgl:gb≠lb:=(fun e=>sP.out.ne.2.2.2 e.symm);have G5:w5.heap[gb]?=Y.heap[gb]?:=oG.out.block gb SI hgl;have q3:w5.cell? ⟨gb,3,none⟩=some (.slice (some ⟨lb,0,none⟩) K cap):=(World.cell?_of_block (a:=⟨gb,3,none⟩) G5).trans g3;have f3:w5.frozen? ⟨gb,3,none⟩=false:=ak (G5.trans sP.out.G) 3;clear hown5 gV jT G5)
     all_goals
      go_wp2_with fail
      go_end0
      have hP3:=iC.out.parted (of':=uN) HF.out.1 hd (by have:=HF.out.2.2.1;have:=HF.out.2.2.2;omega) (Or.inr ⟨HF.out.2.2.1,rfl,rfl,HF.out.2.2.1⟩) GU.out.1 (fun p s hp=>by rw [GU.out.2 p s hp,←HF.out.2.1,show f+x=q by have:=HF.out.2.2.1;have:=HF.out.2.2.2;omega]) (a:=q) (b:=t) (c:=f) (e:=q)
      have K5:=hP3.pi.few
      rw [List.length_append,Ot.out] at K5
      have HSF:Only (fun b=>b=lb∨b=ob∨b=gb) w w5:=(((KZ.out.mono (fun b h=>Or.inl h)).trans (sK.out.mono (fun _ h=>h.elim))).trans (ES.out.mono (fun b h=>Or.inr (Or.inl h)))).trans (oG.out.mono (fun b h=>Or.inl h))
      exact⟨rfl,g5,cap5,uN,_,sP.out.more Ot.out oG.out HW5.out (by simpa using K5),hP3,AJ HF.out.1,(Kp.of (S:=fun b=>b=lb∨b=ob∨b=gb) (HSF.setCell (p:=⟨gb,3,none⟩) (Or.inr (Or.inr rfl)) _) (yO HM.out) (yP HM.out))⟩
def St (W0 w:World) (gb rb ab ob n base B1 pg pm K:Nat) (vL:Value) (of L:List Nat):Prop:=∃row at' ls vm mt,Ms w gb rb ab ob n base B1 vL row at' of ls∧Hm.Pt n row at' of ls (fun x=>x∈L)∧Mt w pg pm gb B1 vm mt ls∧ls.length=K∧Kt rb ab pm vL W0 w
theorem AO {n:Nat} {row at' of:List Nat} {ls:List (Nat × Nat × Nat)} {T T':Nat→Prop} (h:Hm.Pt n row at' of ls T) (e:∀x,T x↔T' x):Hm.Pt n row at' of ls T':=
 ⟨h.rl,h.al,h.ol,h.ra,h.ar,h.C9,fun g f t d hg=>by
  obtain⟨a,b,c,q⟩:=h.sO g f t d hg
  exact⟨a,b,c,fun p s h1 h2 hx=>⟨(q p s h1 h2 hx).1,((q p s h1 h2 hx).2).trans (e s)⟩⟩⟩
theorem St.from {W0 w w':World} {gb rb ab ob n base B1 pg pm K:Nat} {vL:Value} {of L:List Nat} (h:St w w' gb rb ab ob n base B1 pg pm K vL of L) (k:Kt rb ab pm vL W0 w):St W0 w' gb rb ab ob n base B1 pg pm K vL of L:=by
 obtain⟨row,at',ls,vm,mt,h1,h2,h3,h4,h5⟩:=h
 exact⟨row,at',ls,vm,mt,h1,h2,h3,h4,k.trans h5⟩
theorem St.here {W0 w:World} {gb rb ab ob n base B1 pg pm K:Nat} {vL:Value} {of L:List Nat} (h:St W0 w gb rb ab ob n base B1 pg pm K vL of L):St w w gb rb ab ob n base B1 pg pm K vL of L∧Kt rb ab pm vL W0 w:=by
 obtain⟨row,at',ls,vm,mt,h1,h2,h3,h4,h5⟩:=h
 exact⟨⟨row,at',ls,vm,mt,h1,h2,h3,h4,Kt.refl _ _ _ _ _⟩,h5⟩
theorem St.alloc {W0 w:World} {gb rb ab ob n base B1 pg pm K:Nat} {vL:Value} {of L:List Nat} (h:St W0 w gb rb ab ob n base B1 pg pm K vL of L) (o:Obj):St W0 (w.alloc o) gb rb ab ob n base B1 pg pm K vL of L:=by
 obtain⟨row,at',ls,vm,mt,h1,h2,h3,h4,h5⟩:=h
 refine⟨row,at',ls,vm,mt,h1.alloc o,h2,⟨?_,?_,h3.own.alloc o,h3.b1,h3.b2,h3.pp,h3.nd,h3.mem⟩,h4,h5.alloc o⟩
 ·exact (Below.heap_alloc _ _ _ (Array.getElem?_eq_some_iff.1 h3.g).1).trans h3.g
 ·exact (Below.heap_alloc _ _ _ (Array.getElem?_eq_some_iff.1 h3.m).1).trans h3.m
theorem Ou (W0:World) (gb rb ab ob n base B1 pg pm K:Nat) (vL:Value) (of L:List Nat) (s:Nat) (w:World) (h:St W0 w gb rb ab ob n base B1 pg pm K vL of L) (hs:s < n) (hn:s∉L) (Df:∀b,vL.ownBlock=some b→b < pm):
  Calls Tryz.prog 117 #[.int .i64 (s:Int),.pointer (some ⟨pg,0,none⟩),.pointer (some ⟨pm,0,none⟩)] w fun e w'=>e=.returned (.tuple #[])∧St W0 w' gb rb ab ob n base B1 pg pm K vL of (L++[s]):=by
 obtain⟨row,at',ls,vm,mt,h1,h2,h3,h4,h5⟩:=h
 refine (KW gb rb ab ob n base B1 pg pm K vL row at' of ls _ vm mt s w h1 h2 h3 hs hn h4 Df).mono ?_
 rintro e w' ⟨he,aaf,at2,ls2,vm2,mt2,k1,k2,k3,k4,k5⟩
 exact⟨he,aaf,at2,ls2,vm2,mt2,k1,AO k2 (fun x=>by simp),k3,k4,h5.trans k5⟩
def Rd (w:World) (B1 pm:Nat) (vL:Value) (a:Option Addr) (m:Nat) (D:List Nat):Prop:=D.length=m∧∃b off,(0 < m→a=some ⟨b,off,none⟩∧b < w.heap.size∧B1≤b∧b < pm∧vL.ownBlock≠some b)∧∀(j x:Nat),D[j]?=some x→w.cell? ⟨b,off+j,none⟩=some (.int .i64 (x:Int))
theorem Kt.blk {rb ab pm:Nat} {vL:Value} {w w':World} (h:Kt rb ab pm vL w w') {b:Nat} (hb:b < w.heap.size) (h1:b≠rb) (h2:b≠ab) (h3:vL.ownBlock≠some b) (h4:b < pm):w'.heap[b]?=w.heap[b]?:=by
 have:=h.keep b _ (Array.getElem?_eq_getElem hb) h1 h2 h3 (by omega) (Or.inl h4)
 rw [this,Array.getElem?_eq_getElem hb]
theorem Rd.keep {w w':World} {rb ab B1 pm:Nat} {vL:Value} {a:Option Addr} {m:Nat} {D:List Nat} (h:Rd w B1 pm vL a m D) (hk:Kt rb ab pm vL w w') (h1:rb < B1) (h2:ab < B1):Rd w' B1 pm vL a m D:=by
 obtain⟨hl,b,off,k1,k2⟩:=h
 refine⟨hl,b,off,fun hm=>?_,fun j x hj=>?_⟩
 ·obtain⟨e,e1,e2,e3,e4⟩:=k1 hm
  exact⟨e,Nat.lt_of_lt_of_le e1 hk.size,e2,e3,e4⟩
 ·obtain⟨e,e1,e2,e3,e4⟩:=k1 (by have:=(List.getElem?_eq_some_iff.1 hj).1;omega)
  have hb:=hk.blk (b:=b) e1 (by omega) (by omega) e4 e3
  exact (World.cell?_of_block (a:=⟨b,off+j,none⟩) hb).trans (k2 j x hj)
theorem Rd.at {w:World} {B1 pm:Nat} {vL:Value} {a:Option Addr} {m:Nat} {D:List Nat} (h:Rd w B1 pm vL a m D) {i:Nat} (hi:i < m):∃b off x,a=some ⟨b,off,none⟩∧b < w.heap.size∧D[i]?=some x∧w.cell? ⟨b,off+i,none⟩=some (.int .i64 (x:Int)):=by
 obtain⟨hl,b,off,k1,k2⟩:=h
 obtain⟨e,e1,_⟩:=k1 (by omega)
 have hx:D[i]?=some D[i]:=List.getElem?_eq_getElem (by omega)
 exact⟨b,off,_,e,e1,hx,k2 i _ hx⟩
theorem xh {D:List Nat} {i x:Nat} (h:D[i]?=some x):D.take (i+1)=D.take i++[x]:=by
 rw [List.take_add_one,h]
 rfl
theorem uO (W0:World) (gb rb ab ob n base B1 pg pm K ps:Nat) (vL:Value) (of L D:List Nat) (a:Option Addr) (m c:Nat) (w:World) (hS:St W0 w gb rb ab ob n base B1 pg pm K vL of L) (hR:Rd w B1 pm vL a m D) (hps:w.cell? ⟨ps,0,none⟩=some (.slice a m c)) (hm:m≤100000) (hnd:(L++D).Nodup) (hlt:∀x∈D,x < n) (Df:∀b,vL.ownBlock=some b→b < pm) (hrb:rb < B1) (hab:ab < B1):
  Calls Tryz.prog 120 #[.func (.func 117) #[] #[.pointer (some ⟨pg,0,none⟩),.pointer (some ⟨pm,0,none⟩)],.pointer (some ⟨ps,0,none⟩)] w fun e w'=>e=.returned (.tuple #[])∧St W0 w' gb rb ab ob n base B1 pg pm K vL of (L++D):=by
 have HS:=zH hS
 have HR:=zH hR
 have HN:Hid ((L++D).Nodup∧∀x∈D,x < n):=⟨hnd,hlt⟩
 have HLP:=zH Df
 have lps:=World.block_lt_of_cell? w _ hps
 clear hS hR hnd hlt Df
 go_enter Tryz.func120,Tryz.ntmps120
 go_wp2_with fail
 go_loopg [7] m (fun gh v wr=>∃(i:Nat) (W:World),W=wr∧gh=m - i∧i≤m∧v=.int .i64 (i:Int)∧St w W gb rb ab ob n base B1 pg pm K vL of (L++D.take i))
 case atStart=>exact⟨0,_,rfl,rfl,Nat.zero_le _,rfl,by rw [List.take_zero,List.append_nil];exact HS.out.here.1⟩
 case round=>
  obtain⟨i,W,hW,rfl,hi,rfl,hs⟩:=hrel
  subst hW
  have Ov:=zH hs
  clear hs
  by_cases hlt:i < m
  ·have t1:(i:Int) <(m:Int):=by omega
   obtain⟨b,off,x,rfl,hb,hx,cx⟩:=(HR.out.keep Ov.out.here.2 hrb hab).at hlt
   have HX:=zH hx
   clear hx
   have HC:Hid (Calls Tryz.prog 117 #[.int .i64 (x:Int),.pointer (some ⟨pg,0,none⟩),.pointer (some ⟨pm,0,none⟩)] W fun e w'=>e=.returned (.tuple #[])∧St w w' gb rb ab ob n base B1 pg pm K vL of (L++D.take (i+1))):=by
    have:=Ou w gb rb ab ob n base B1 pg pm K vL of (L++D.take i) x W Ov.out (HN.out.2 x (List.mem_of_getElem? HX.out)) (fun hmem=>by
     have h2:=HN.out.1
     have e:L++D=(L++D.take i)++D.drop i:=by rw [List.append_assoc,List.take_append_drop]
     rw [e] at h2
     have hd:x∈D.drop i:=List.mem_of_getElem? (i:=0) (by rw [List.getElem?_drop];exact HX.out)
     exact (List.nodup_append.1 h2).2.2 x hmem x hd rfl) HLP.out
    rw [List.append_assoc,←xh HX.out] at this
    exact this
   go_wp2_with (first |(go_at_call 117;refine Calls.mono HC.out ?_;rintro e w2 ⟨rfl,hs2⟩;have HS2:=zH hs2;clear hs2))
   go_roundg (m -(i+1))
   case measure=>omega
   case rel=>exact⟨i+1,_,rfl,rfl,by omega,by go_num,HS2.out⟩
  ·have t2:decide ((i:Int) <(m:Int))=false:=decide_eq_false (by omega)
   go_wp2_with fail
   go_end0
   refine⟨rfl,?_⟩
   have:=Ov.out.from HS.out.here.2
   rw [List.take_of_length_le (by have:=HR.out.1;omega)] at this
   exact this
theorem AP (a:Option Addr) (m c:Nat) (w:World):Calls Tryz.prog 97 #[.slice a m c] w fun e w'=>e=.returned (.func (.func 120) #[] #[.pointer (some ⟨w.heap.size,0,none⟩)])∧w'=w.alloc (.cells #[.slice a m c] 28):=by
 go_enter Tryz.func97,Tryz.ntmps97
 go_wp2_with fail
 go_ret
 exact⟨rfl,rfl⟩
theorem AQ (a b:Option Addr) (m c m' c':Nat) (w:World):Calls Tryz.prog 100 #[.slice a m c,.slice b m' c'] w fun e w'=>e=.returned (.func (.func 121) #[] #[.pointer (some ⟨w.heap.size+1,0,none⟩),.pointer (some ⟨w.heap.size,0,none⟩)])∧w'=(w.alloc (.cells #[.slice a m c] 69)).alloc (.cells #[.slice b m' c'] 28):=by
 go_enter Tryz.func100,Tryz.ntmps100
 go_wp2_with fail
 go_ret
 exact⟨rfl,rfl⟩
def Bk (w:World) (B1 pm n:Nat) (vL:Value) (a:Option Addr) (bk:Nat→List Nat):Prop:=∃bb off,a=some ⟨bb,off,none⟩∧bb < w.heap.size∧B1≤bb∧bb < pm∧vL.ownBlock≠some bb∧∀z,z < n→∃a' m c,w.cell? ⟨bb,off+z,none⟩=some (.slice a' m c)∧Rd w B1 pm vL a' m (bk z)∧m≤100000
theorem Bk.keep {w w':World} {rb ab B1 pm n:Nat} {vL:Value} {a:Option Addr} {bk:Nat→List Nat} (h:Bk w B1 pm n vL a bk) (hk:Kt rb ab pm vL w w') (h1:rb < B1) (h2:ab < B1):Bk w' B1 pm n vL a bk:=by
 obtain⟨bb,off,e,e1,e2,e3,e4,e5⟩:=h
 refine⟨bb,off,e,Nat.lt_of_lt_of_le e1 hk.size,e2,e3,e4,fun z hz=>?_⟩
 obtain⟨a',m,c,k1,k2,k3⟩:=e5 z hz
 have hb:=hk.blk (b:=bb) e1 (by omega) (by omega) e4 e3
 exact⟨a',m,c,(World.cell?_of_block (a:=⟨bb,off+z,none⟩) hb).trans k1,k2.keep hk h1 h2,k3⟩
theorem Dt (W0:World) (gb rb ab ob n base B1 pg pm K pgo wm:Nat) (vL:Value) (of L G:List Nat) (bk:Nat→List Nat) (a ag:Option Addr) (m c mg cg:Nat) (w:World) (hS:St W0 w gb rb ab ob n base B1 pg pm K vL of L) (hR:Rd w B1 pm vL ag mg G) (hB:Bk w B1 pm n vL a bk) (Yg:w.cell? ⟨pgo,0,none⟩=some (.slice ag mg cg)) (hpb:w.cell? ⟨wm,0,none⟩=some (.slice a m c)) (IA:m=n) (hb1:B1≤wm) (hb2:wm < pm) (hb3:vL.ownBlock≠some wm) (hm:mg≤100000) (hnd:(L++G.flatMap bk).Nodup) (hlt:∀x∈G.flatMap bk,x < n) (hG:∀x∈G,x < n) (Df:∀b,vL.ownBlock=some b→b < pm) (hrb:rb < B1) (hab:ab < B1) (hn:n≤100000):
  Calls Tryz.prog 121 #[.func (.func 117) #[] #[.pointer (some ⟨pg,0,none⟩),.pointer (some ⟨pm,0,none⟩)],.pointer (some ⟨pgo,0,none⟩),.pointer (some ⟨wm,0,none⟩)] w fun e w'=>e=.returned (.tuple #[])∧St W0 w' gb rb ab ob n base B1 pg pm K vL of (L++G.flatMap bk):=by
 have HS:=zH hS
 have HR:=zH hR
 have HB:=zH hB
 have HPB:=zH hpb
 have HN:Hid ((L++G.flatMap bk).Nodup∧(∀x∈G.flatMap bk,x < n)∧∀x∈G,x < n):=⟨hnd,hlt,hG⟩
 have HLP:=zH Df
 have HMN:=zH IA
 have HB3:=zH hb3
 have abx:=World.block_lt_of_cell? w _ Yg
 have aag:=World.block_lt_of_cell? w _ hpb
 have aby:m≤n:=by omega
 have abz:n≤m:=by omega
 clear hS hR hB hpb hnd hlt hG Df IA hb3
 go_enter Tryz.func121,Tryz.ntmps121
 go_wp2_with fail
 go_loopg [8] mg (fun gh v wr=>∃(i:Nat) (W:World),W=wr∧gh=mg - i∧i≤mg∧v=.int .i64 (i:Int)∧St w W gb rb ab ob n base B1 pg pm K vL of (L++(G.take i).flatMap bk))
 case atStart=>exact⟨0,_,rfl,rfl,Nat.zero_le _,rfl,by rw [List.take_zero];simp;exact HS.out.here.1⟩
 case round=>
  obtain⟨i,W,hW,rfl,hi,rfl,hs⟩:=hrel
  subst hW
  have Ov:=zH hs
  clear hs
  by_cases hlt:i < mg
  ·have t1:(i:Int) <(mg:Int):=by omega
   obtain⟨b,off,x,rfl,hb,hx,cx⟩:=(HR.out.keep Ov.out.here.2 hrb hab).at hlt
   have HX:=zH hx
   have V9:x < n:=HN.out.2.2 x (List.mem_of_getElem? hx)
   have hxm:(x:Int) <(m:Int):=by omega
   obtain⟨bb,aah,rfl,hbb,b2,b3,b4,b5⟩:=HB.out.keep Ov.out.here.2 hrb hab
   obtain⟨a',m',c',k1,k2,k3⟩:=b5 x V9
   have HR2:=zH k2
   have hblk:=Ov.out.here.2.blk (b:=wm) aag (by omega) (by omega) HB3.out hb2
   have kpb:W.cell? ⟨wm,0,none⟩=some (.slice (some ⟨bb,aah,none⟩) m c):=(World.cell?_of_block (a:=⟨wm,0,none⟩) hblk).trans HPB.out
   have abA:wm < W.heap.size:=World.block_lt_of_cell? W _ kpb
   clear hx b5 k2 hblk
   have HNX:Hid (((L++(G.take i).flatMap bk)++bk x).Nodup∧(∀y∈bk x,y < n)∧(L++(G.take i).flatMap bk)++bk x=L++(G.take (i+1)).flatMap bk):=by
    have e:(L++(G.take i).flatMap bk)++bk x=L++(G.take (i+1)).flatMap bk:=by
     rw [xh HX.out,List.flatMap_append]
     simp
    refine⟨?_,fun y hy=>HN.out.2.1 y (List.mem_flatMap.2 ⟨x,List.mem_of_getElem? HX.out,hy⟩),e⟩
    rw [e]
    have h2:=HN.out.1
    have e2:L++G.flatMap bk=(L++(G.take (i+1)).flatMap bk)++(G.drop (i+1)).flatMap bk:=by
     rw [List.append_assoc,←List.flatMap_append,List.take_append_drop]
    rw [e2] at h2
    exact (List.nodup_append.1 h2).1
   have HC:Hid (Calls Tryz.prog 120 #[.func (.func 117) #[] #[.pointer (some ⟨pg,0,none⟩),.pointer (some ⟨pm,0,none⟩)],.pointer (some ⟨W.heap.size,0,none⟩)] (W.alloc (.cells #[.slice a' m' c'] 28)) fun e w'=>e=.returned (.tuple #[])∧St w w' gb rb ab ob n base B1 pg pm K vL of (L++(G.take (i+1)).flatMap bk)):=by
    have:=uO w gb rb ab ob n base B1 pg pm K W.heap.size vL of (L++(G.take i).flatMap bk) (bk x) a' m' c' (W.alloc (.cells #[.slice a' m' c'] 28)) (Ov.out.alloc _) (HR2.out.keep (Kt.of ((Only.refl (fun _=>False) W).alloc _) (fun _ _ h=>h.elim)) hrb hab) (ae (heap_alloc_new W _)) k3 HNX.out.1 HNX.out.2.1 HLP.out hrb hab
    rw [HNX.out.2.2] at this
    exact this
   go_wp2_with (first |(go_at_call 97;refine Calls.mono (AP a' m' c' W) ?_;rintro e w1 ⟨rfl,rfl⟩) |(go_at_call 120;refine Calls.mono HC.out ?_;rintro e w2 ⟨rfl,hs2⟩;have HS2:=zH hs2;clear hs2))
   go_roundg (mg -(i+1))
   case measure=>omega
   case rel=>exact⟨i+1,_,rfl,rfl,by omega,by go_num,HS2.out⟩
  ·have t2:decide ((i:Int) <(mg:Int))=false:=decide_eq_false (by omega)
   go_wp2_with fail
   go_end0
   refine⟨rfl,?_⟩
   have:=Ov.out.from HS.out.here.2
   rw [List.take_of_length_le (by have:=HR.out.1;omega)] at this
   exact this
end Go.Proofs.YtdlabakleldgaaaGreatDoor.L
