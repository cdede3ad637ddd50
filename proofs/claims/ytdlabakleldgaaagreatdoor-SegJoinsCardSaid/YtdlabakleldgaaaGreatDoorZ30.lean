/- LNd -/
import Derived.Test.YtdlabakleldgaaaGreatDoorZ00
import Derived.Test.YtdlabakleldgaaaGreatDoorZ29
set_option linter.unusedVariables false
set_option linter.unusedSimpArgs false
set_option maxRecDepth 100000
set_option maxHeartbeats 8000000
namespace Go.Proofs.YtdlabakleldgaaaGreatDoor.L
open Go.RowKit Go.Maps
def Nk (n:Nat) (g:Nat→Nat) (nu:Nat→Int) (come:List Nat):Prop:=∀x,x < n→(nu x=-1∧∀i t:Nat,come[i]?=some t→g t≠x)∨(∃j t:Nat,nu x=(j:Int)∧come[j]?=some t∧g t=x)
theorem Nk.start (n:Nat) (g:Nat→Nat):Nk n g (fun y=>if y=g 0 then 0 else -1) [0]:=fun x hx=>by
 by_cases e:x=g 0
 ·exact Or.inr ⟨0,0,if_pos e,rfl,e.symm⟩
 ·refine Or.inl ⟨if_neg e,fun i t ht=>?_⟩
  have hi:=(List.getElem?_eq_some_iff.1 ht).1
  obtain rfl:i=0:=by simpa using hi
  injection ht with ht
  subst ht
  exact fun h=>e h.symm
theorem Nk.new {n:Nat} {g:Nat→Nat} {nu:Nat→Int} {come:List Nat} (h:Nk n g nu come) (x t:Nat) (hx:x=g t):Nk n g (fun y=>if y=x then (come.length:Int) else nu y) (come++[t]):=fun y hy=>by
 by_cases e:y=x
 ·exact Or.inr ⟨come.length,t,if_pos e,by rw [List.getElem?_append_right (Nat.le_refl _),Nat.sub_self];rfl,by rw [e,hx]⟩
 ·have hv:(fun y=>if y=x then (come.length:Int) else nu y) y=nu y:=if_neg e
  rw [hv]
  rcases h y hy with ⟨h1,h2⟩ | ⟨j,u,h1,h2,h3⟩
  ·refine Or.inl ⟨h1,fun i u hu=>?_⟩
   rcases Hm.yI hu with h3 | ⟨_,rfl⟩
   ·exact h2 i u h3
   ·exact fun h=>e (by rw [hx,h])
  ·exact Or.inr ⟨j,u,h1,by rw [List.getElem?_append_left (List.getElem?_eq_some_iff.1 h2).1];exact h2,h3⟩
theorem EW {F:List Nat} {k c j:Nat} (hF:F.length=c) (hc:c < k):(F++List.replicate (k - c) 0).set c j=(F++[j])++List.replicate (k -(c+1)) 0:=by
 subst hF
 rw [List.set_append_right _ _ (Nat.le_refl _),Nat.sub_self,show k - F.length=(k -(F.length+1))+1 by omega,List.replicate_succ,List.set_cons_zero,List.append_assoc]
 rfl
def No (W0 W:World) (n nc nB lB:Nat) (nx:Nat→Nat→Nat) (O g:Nat→Nat) (gC cap m i:Nat):Prop:=∃come nu rows outs vs vN vO,Nm W nB lB n nu come (.slice (some ⟨gC,0,none⟩) m cap) vN vO rows outs vs∧Hm.Nu n nc nx O come rows outs∧Nk n g nu come∧rows.length=i∧come.length=m∧Only (fun b=>nB≤b) W0 W
def Ni (W0 V:World) (n nc nB lB wB:Nat) (nx:Nat→Nat→Nat) (O g:Nat→Nat) (dF:List Nat) (s:Nat) (vN vO:Value) (rows:List (List Nat)) (outs:List Nat) (vs:List Value) (gC cap m c:Nat):Prop:=∃come nu F,Nm V nB lB n nu come (.slice (some ⟨gC,0,none⟩) m cap) vN vO rows outs vs∧Wa V nB wB (.slice (some ⟨gC,0,none⟩) m cap) vs (F++List.replicate (nc - c) 0)∧Hm.Nr n nc nx O dF s come F∧Nk n g nu come∧F.length=c∧come.length=m∧Only (fun b=>nB≤b) W0 V
theorem yM {W:World} {nB e size n:Nat} {v:Value} {xs:List Value} (h:W.ownsRow (nB+1) e size v n xs):∀b,v.ownBlock=some b→nB≤b:=fun b hb=>by have:=(bz h hb).1;omega
theorem uL {w w':World} {b k:Nat} {v:Value} (h:Only (fun _=>False) w w') (hc:w.cell? ⟨b,k,none⟩=some v):w'.cell? ⟨b,k,none⟩=some v:=(World.cell?_of_block (a:=⟨b,k,none⟩) (h.block b (World.block_lt_of_cell? w _ hc) (fun h=>h))).trans hc
theorem p8 {w W0 V:World} {nB:Nat} (h1:Only (fun _=>False) w W0) (h2:Only (fun b=>nB≤b) W0 V) (hB:w.heap.size≤nB):Only (fun _=>False) w V:=
 ((h1.mono (S':=fun b=>nB≤b) (fun _ h=>h.elim)).trans h2).old (fun g hg=>Or.inl (by omega))
theorem V7:(Tryz.prog.info? 71).map (·.size)=some 2:=by kernel_rfl
theorem Oj:(Tryz.prog.info? 32).map (fun i=>(i.zero,i.size,i.bytes))=some (some (.int .u32 0),1,4):=by kernel_rfl
theorem yN (n nc bn on cN bo oo co gb:Nat) (nx:Nat→Nat→Nat) (O:Nat→Nat) (of:List Nat) (w:World) (h0:0 < n) (hn:n≤100000) (hc:nc≤100000) (hN:MM w n nc bn on nx) (hO:∀s,s < n→w.cell? ⟨bo,oo+s,none⟩=some (.int .u32 (O s:Int)))
  (hG:Nb w gb of) (hgl:of.length=n) (hgn:∀s,s < n→of[s]?.getD 0 < n) (hE:∀s t,s < n→t < n→(of[s]?.getD 0=of[t]?.getD 0↔Hm.yB nc nx O s t)):
  Calls Tryz.prog 76 #[.agg #[.slice (some ⟨bn,on,none⟩) n cN,.slice (some ⟨bo,oo,none⟩) n co],.slice (some ⟨gb,0,none⟩) n n] w fun e w'=>∃v rows outs r,e=.returned v∧Ra w' w.heap.size v rows outs∧Hm.iq n nc nx O rows outs r∧Only (fun _=>False) w w':=by
 have HN:=zH hN
 have HO:=zH hO
 have HG:=zH hG
 have HGL:=zH hgl
 have HGN:=zH hgn
 have HE:=zH hE
 have V8:Hid (∀s,s < n→of[s]?=some (of[s]?.getD 0)):=fun s hs=>by
  rw [List.getElem?_eq_getElem (by omega)];rfl
 obtain⟨x0,hx0⟩:∃x,x=of[0]?.getD 0:=⟨_,rfl⟩
 have ZR:x0 < n:=by rw [hx0];exact hgn 0 h0
 have c0:w.cell? ⟨gb,0,none⟩=some (.int .i64 (x0:Int)):=by rw [hx0];exact hG.cell (V8.out 0 h0)
 have HX0:=zH hx0
 have EN:=hG.lt
 have t0:(x0:Int) <(n:Int):=by omega
 have t00:(0:Int) <(n:Int):=by omega
 clear hN hO hG hgl hgn hE hx0
 obtain⟨U,hU⟩:∃U,U=((w.alloc (.cells #[.slice (some ⟨bn,on,none⟩) n cN,.slice (some ⟨bo,oo,none⟩) n co] 71)).alloc (.cells #[.slice none 0 0,.slice none 0 0] 71)).alloc (.cells #[.int .i64 (-1)] 3):=⟨_,rfl⟩
 have HU:Hid (U.heap.size=w.heap.size+3∧U.heap[w.heap.size]?=some (.cells #[.slice (some ⟨bn,on,none⟩) n cN,.slice (some ⟨bo,oo,none⟩) n co] 71 (0,0))∧U.heap[w.heap.size+1]?=some (.cells #[.slice none 0 0,.slice none 0 0] 71 (0,0))∧U.heap[w.heap.size+2]?=some (.cells #[.int .i64 (-1)] 3 (0,0))∧Only (fun _=>False) w U):=by
  rw [hU]
  refine⟨by simp,(Below.heap_alloc _ _ _ (by simp;omega)).trans (pU w _ _),?_,?_,(((Only.refl _ _).alloc _).alloc _).alloc _⟩
  ·refine (Below.heap_alloc _ _ _ (by simp)).trans ?_
   have:=heap_alloc_new (w.alloc (.cells #[.slice (some ⟨bn,on,none⟩) n cN,.slice (some ⟨bo,oo,none⟩) n co] 71)) (.cells #[.slice none 0 0,.slice none 0 0] 71)
   rw [show (w.alloc (.cells #[.slice (some ⟨bn,on,none⟩) n cN,.slice (some ⟨bo,oo,none⟩) n co] 71)).heap.size=w.heap.size+1 by simp] at this
   exact this
  ·have:=heap_alloc_new ((w.alloc (.cells #[.slice (some ⟨bn,on,none⟩) n cN,.slice (some ⟨bo,oo,none⟩) n co] 71)).alloc (.cells #[.slice none 0 0,.slice none 0 0] 71)) (.cells #[.int .i64 (-1)] 3)
   rw [show ((w.alloc (.cells #[.slice (some ⟨bn,on,none⟩) n cN,.slice (some ⟨bo,oo,none⟩) n co] 71)).alloc (.cells #[.slice none 0 0,.slice none 0 0] 71)).heap.size=w.heap.size+2 by simp] at this
   exact this
 have HC:Hid (Calls Tryz.prog 93 #[.slice (some ⟨w.heap.size+1+1,0,none⟩) 1 1,.int .i64 (n:Int)] U fun e w'=>e=.returned (.slice (some ⟨w.heap.size+3,0,none⟩) n n)∧w'.heap[w.heap.size+3]?=some (.cells (rowOf n (fun _=>.int .i64 (-1))) 3 (0,0))∧Only (fun _=>False) U w'):=by
  have:=Dc (w.heap.size+2) n U h0 hn (ae HU.out.2.2.2.1)
  rw [HU.out.1] at this
  exact this
 have lU:w.heap.size+3≤U.heap.size:=by have:=HU.out.1;omega
 go_enter Tryz.func76,Tryz.ntmps76
 go_wp2_with fail
 rw [←hU]
 clear hU
 refine Calls.mono HC.out ?_
 rintro e w1 ⟨rfl,hb1,ho1⟩
 have H1:Hid (w1.heap[w.heap.size+3]?=some (.cells (rowOf n (fun _=>.int .i64 (-1))) 3 (0,0))∧Only (fun _=>False) U w1):=⟨hb1,ho1⟩
 have lw1:=(Array.getElem?_eq_some_iff.1 hb1).1
 have f1:∀x,w1.frozen? ⟨w.heap.size+3,x,none⟩=false:=fun x=>ak hb1 x
 have d1:w1.cell? ⟨w.heap.size+3,x0,none⟩=some (.int .i64 (-1)):=by rw [ae hb1,bW _ ZR]
 have d2:w1.cell? ⟨gb,0,none⟩=some (.int .i64 (x0:Int)):=(World.cell?_of_block (a:=⟨gb,0,none⟩) ((HU.out.2.2.2.2.trans ho1).block gb EN (fun h=>h))).trans c0
 have lg1:=World.block_lt_of_cell? w1 _ d2
 clear hb1 ho1 c0 HC
 go_wp2_with fail
 obtain⟨W0,hW0⟩:∃W0,W0=((w1.setCell ⟨w.heap.size+3,x0,none⟩ (.int .i64 0)).alloc (.cells #[.int .i64 0] 3)).alloc (.cells #[.slice none 0 0,.slice none 0 0] 71):=⟨_,rfl⟩
 rw [←hW0]
 have hsz:(w1.setCell ⟨w.heap.size+3,x0,none⟩ (.int .i64 0)).heap.size=w1.heap.size:=by simp [World.setCell]
 have NI:Hid (No W0 W0 n nc (w.heap.size+3) (w1.heap.size+1) nx O (fun s=>of[s]?.getD 0) w1.heap.size 1 1 0):=by
  have hb:(w1.setCell ⟨w.heap.size+3,x0,none⟩ (.int .i64 0)).heap[w.heap.size+3]?=some (.cells (rowOf n (fun y=>.int .i64 (if y=of[0]?.getD 0 then 0 else -1))) 3 (0,0)):=by
   rw [aa H1.out.1,mi,←HX0.out]
   congr 2
   unfold rowOf
   congr 2
   funext y
   split <;> rfl
  have hcm:W0.heap[w1.heap.size]?=some (.cells #[.int .i64 0] 3 (0,0)):=by
   rw [hW0]
   have:=pU (w1.setCell ⟨w.heap.size+3,x0,none⟩ (.int .i64 0)) (.cells #[.int .i64 0] 3) (.cells #[.slice none 0 0,.slice none 0 0] 71)
   rw [hsz] at this
   exact this
  have hls:W0.heap[w1.heap.size+1]?=some (.cells #[.slice none 0 0,.slice none 0 0] 71 (0,0)):=by
   rw [hW0]
   have:=heap_alloc_new ((w1.setCell ⟨w.heap.size+3,x0,none⟩ (.int .i64 0)).alloc (.cells #[.int .i64 0] 3)) (.cells #[.slice none 0 0,.slice none 0 0] 71)
   rw [show ((w1.setCell ⟨w.heap.size+3,x0,none⟩ (.int .i64 0)).alloc (.cells #[.int .i64 0] 3)).heap.size=w1.heap.size+1 by rw [←hsz];simp] at this
   exact this
  refine⟨[0],_,[],[],[],.slice none 0 0,.slice none 0 0,⟨?_,?_,by omega,hls,rfl,⟨rfl,Or.inl ⟨rfl,rfl⟩⟩,(fun i r L h=>by cases h),(fun r h=>by cases h),⟨rfl,Or.inl ⟨rfl,rfl⟩⟩⟩,Hm.Nu.start h0,Nk.start n _,rfl,rfl,Only.refl _ _⟩
  ·rw [hW0]
   refine (Below.heap_alloc _ _ _ (by simp [hsz];omega)).trans ((Below.heap_alloc _ _ _ (by rw [hsz];omega)).trans hb)
  ·exact⟨rfl,Or.inr ⟨w1.heap.size,1,#[.int .i64 0],rfl,by omega,hcm,Nat.le_refl _,by unfold maxLen;omega,rfl,rfl⟩⟩
 have HOW:Hid (Only (fun _=>False) w W0):=by
  rw [hW0]
  have:=(((HU.out.2.2.2.2.trans H1.out.2).mono (S':=fun b=>b=w.heap.size+3) (fun _ h=>h.elim)).setCell (p:=⟨w.heap.size+3,x0,none⟩) rfl (.int .i64 0))
  exact ((this.alloc (.cells #[.int .i64 0] 3)).alloc (.cells #[.slice none 0 0,.slice none 0 0] 71)).old (fun g hg=>Or.inl (by omega))
 have Uk:Hid (W0.heap[w.heap.size]?=some (.cells #[.slice (some ⟨bn,on,none⟩) n cN,.slice (some ⟨bo,oo,none⟩) n co] 71 (0,0))):=by
  rw [hW0]
  refine (Below.heap_alloc _ _ _ (by simp [hsz];omega)).trans ((Below.heap_alloc _ _ _ (by rw [hsz];omega)).trans ((Below.heap_setCell _ _ _ _ (by show w.heap.size≠w.heap.size+3;omega)).trans ((H1.out.2.block _ (by omega) (fun h=>h)).trans HU.out.2.1)))
 have Ij:Hid (W0.heap[w.heap.size+1]?=some (.cells #[.slice none 0 0,.slice none 0 0] 71 (0,0))):=by
  rw [hW0]
  refine (Below.heap_alloc _ _ _ (by simp [hsz];omega)).trans ((Below.heap_alloc _ _ _ (by rw [hsz];omega)).trans ((Below.heap_setCell _ _ _ _ (by show w.heap.size+1≠w.heap.size+3;omega)).trans ((H1.out.2.block _ (by omega) (fun h=>h)).trans HU.out.2.2.1)))
 clear hW0 hsz d1 d2 f1 lg1
 have hmk:=fun (w:World)=>run_make_row' (P:=Tryz.prog) 28 3 (.int .i64 0) 8 Tryz.underlying28 kH rfl .i64 .i64 nc (by omega) (by omega) w
 obtain⟨i3,g3,Iq,Ir,Iu⟩:=info_parts kH
 obtain⟨i23,g23,Oc,Od,Oe⟩:=info_parts yF
 obtain⟨i38,g38,ZT,ZU,ZV⟩:=info_parts Oj
 go_loopg [6,8] n (fun gh v6 v8 wr=>∃(gC cap m i:Nat) (W:World),W=wr∧gh=n - i∧v6=.slice (some ⟨gC,0,none⟩) m cap∧v8=.int .i64 (i:Int)∧No W0 W n nc (w.heap.size+3) (w1.heap.size+1) nx O (fun s=>of[s]?.getD 0) gC cap m i)
 case atStart=>exact⟨w1.heap.size,1,1,0,_,rfl,rfl,rfl,rfl,NI.out⟩
 case round=>
  obtain⟨gC,cap,m,i,W,hW,rfl,rfl,rfl,hNo⟩:=hrel
  subst hW
  obtain⟨come,nu,rows,outs,vs,vN,vO,zo,Qa,Iz,jP,g_,Ah⟩:=hNo
  have Az:Hid (Nm W (w.heap.size+3) (w1.heap.size+1) n nu come (.slice (some ⟨gC,0,none⟩) m cap) vN vO rows outs vs∧Hm.Nu n nc nx O come rows outs∧Nk n (fun s=>of[s]?.getD 0) nu come∧rows.length=i∧come.length=m∧Only (fun b=>w.heap.size+3≤b) W0 W):=⟨zo,Qa,Iz,jP,g_,Ah⟩
  have IA:m≤n:=by rw [←g_];exact Qa.cm.len
  have him:i≤m:=by rw [←jP,←g_];exact Qa.le
  clear zo Qa Iz jP g_ Ah
  by_cases hlt:i < m
  ·have t1:(i:Int) <(m:Int):=by omega
   obtain⟨s,hs⟩:∃s,come[i]?=some s:=⟨_,List.getElem?_eq_getElem (by have:=Az.out.2.2.2.2.1;omega)⟩
   have hsn:s < n:=Az.out.2.1.cm.lt i s hs
   have t2:(s:Int) <(n:Int):=by omega
   have HS:=zH hs
   have HWw:Hid (Only (fun _=>False) w W):=p8 HOW.out Az.out.2.2.2.2.2 (by omega)
   have HAW:Hid (W.heap[w.heap.size]?=some (.cells #[.slice (some ⟨bn,on,none⟩) n cN,.slice (some ⟨bo,oo,none⟩) n co] 71 (0,0))):=(Az.out.2.2.2.2.2.block _ (Array.getElem?_eq_some_iff.1 Uk.out).1 (by omega)).trans Uk.out
   have p0:W.cell? ⟨w.heap.size,0,none⟩=some (.slice (some ⟨bn,on,none⟩) n cN):=ae HAW.out
   have lp:=World.block_lt_of_cell? W _ p0
   obtain⟨a0,k0,q0,_⟩:=(HN.out.keep HWw.out) 0 h0
   rw [Nat.add_zero] at q0
   have lq:=World.block_lt_of_cell? W _ q0
   obtain⟨a1,k1,q1w,XG⟩:=HN.out s hsn
   have HQ:=zH XG
   have q1:=uL HWw.out q1w
   clear q1w
   have r1:W.cell? ⟨gC,i,none⟩=some (.int .i64 (s:Int)):=by
    obtain⟨g,cap',hv,_,_,hcc⟩:=bU Az.out.1.ET (by have:=Az.out.2.2.2.2.1;omega)
    injection hv with hv1
    injection hv1 with hv1
    injection hv1 with hv1
    rw [hv1]
    exact hcc i _ (by unfold iO;rw [List.getElem?_map,hs];rfl)
   have lr:=World.block_lt_of_cell? W _ r1
   clear hs XG
   go_wp2_with fail
   rw [uG]
   obtain⟨X,hX⟩:∃X,X=W.alloc (.cells (nums (List.replicate nc 0)) 3):=⟨_,rfl⟩
   rw [←hX]
   have HX:Hid (Only (fun _=>False) W X∧X.heap[W.heap.size]?=some (.cells (nums (List.replicate nc 0)) 3 (0,0))):=by rw [hX];exact⟨(Only.refl _ _).alloc _,heap_alloc_new _ _⟩
   have p0':X.cell? ⟨w.heap.size,0,none⟩=some (.slice (some ⟨bn,on,none⟩) n cN):=(World.cell?_of_block (a:=⟨w.heap.size,0,none⟩) (HX.out.1.block _ lp (fun h=>h))).trans p0
   have r1':X.cell? ⟨gC,i,none⟩=some (.int .i64 (s:Int)):=(World.cell?_of_block (a:=⟨gC,i,none⟩) (HX.out.1.block _ lr (fun h=>h))).trans r1
   have q1':X.cell? ⟨bn,on+s,none⟩=some (.slice a1 nc k1):=(World.cell?_of_block (a:=⟨bn,on+s,none⟩) (HX.out.1.block _ lq (fun h=>h))).trans q1
   have lX:W.heap.size < X.heap.size:=(Array.getElem?_eq_some_iff.1 HX.out.2).1
   have lpX:=World.block_lt_of_cell? X _ p0'
   have lrX:=World.block_lt_of_cell? X _ r1'
   have lqX:=World.block_lt_of_cell? X _ q1'
   have hwW:w.heap.size+3 < W.heap.size:=(Array.getElem?_eq_some_iff.1 Az.out.1.num).1
   clear hX p0 r1 q1 q0
   go_quiet (fail)
   go_wp2_with fail
   have HI0:Hid (∀k,Ni W0 (X.drewN k) n nc (w.heap.size+3) (w1.heap.size+1) W.heap.size nx O (fun s=>of[s]?.getD 0) come s vN vO rows outs vs gC cap m 0):=fun k=>by
    obtain⟨zo,Qa,Iz,jP,g_,Ah⟩:=Az.out
    have VZ:Only (fun _=>False) W (X.drewN k):=HX.out.1.drewN k
    refine⟨come,nu,[],zo.idle VZ,⟨?_,hwW,fun e=>?_,fun r hr e=>?_⟩,Hm.Nr.start s Qa.cm,Iz,rfl,g_,Ah.trans (VZ.mono (fun _ h=>h.elim))⟩
    ·rw [List.nil_append,Nat.sub_zero]
     exact HX.out.2
    ·have:=uI zo.ET e;omega
    ·obtain⟨L,hL⟩:=zo.one hr
     have:=uI hL e;omega
   go_loopg [6,45] nc (fun gh v6 v45 wr=>∃(gD cap' m' c:Nat) (V:World),V=wr∧gh=nc - c∧c≤nc∧v6=.slice (some ⟨gD,0,none⟩) m' cap'∧v45=.int .i64 (c:Int)∧Ni W0 V n nc (w.heap.size+3) (w1.heap.size+1) W.heap.size nx O (fun s=>of[s]?.getD 0) come s vN vO rows outs vs gD cap' m' c)
   case atStart=>exact⟨gC,cap,m,0,_,rfl,rfl,Nat.zero_le _,rfl,rfl,HI0.out _⟩
   case round=>
    obtain⟨gD,cap',m',c,V,hV,rfl,hcl,rfl,rfl,hNi⟩:=hrel
    subst hV
    obtain⟨oh,Ol,F,zo,hWa,Om,Iz,hF,g_,w_⟩:=hNi
    have HV:Hid (Nm V (w.heap.size+3) (w1.heap.size+1) n Ol oh (.slice (some ⟨gD,0,none⟩) m' cap') vN vO rows outs vs∧Wa V (w.heap.size+3) W.heap.size (.slice (some ⟨gD,0,none⟩) m' cap') vs (F++List.replicate (nc - c) 0)∧Hm.Nr n nc nx O come s oh F∧Nk n (fun s=>of[s]?.getD 0) Ol oh∧F.length=c∧oh.length=m'∧Only (fun b=>w.heap.size+3≤b) W0 V):=⟨zo,hWa,Om,Iz,hF,g_,w_⟩
    have abq:m'≤n:=by rw [←g_];exact Om.cm.len
    have HVw:Hid (Only (fun _=>False) w V):=p8 HOW.out w_ (by omega)
    have HAV:Hid (V.heap[w.heap.size]?=some (.cells #[.slice (some ⟨bn,on,none⟩) n cN,.slice (some ⟨bo,oo,none⟩) n co] 71 (0,0))):=(w_.block _ (Array.getElem?_eq_some_iff.1 Uk.out).1 (by omega)).trans Uk.out
    clear zo hWa Om Iz hF g_ w_
    by_cases hlc:c < nc
    ·have t3:(c:Int) <(nc:Int):=by omega
     obtain⟨b2,o2,e2,v0,v9⟩:=HQ.out c hlc
     obtain⟨tt,P9⟩:∃tt,tt=nx s c:=⟨_,rfl⟩
     have HTT:=zH P9
     rw [←P9] at v0 v9
     have v1:=uL HVw.out v0
     have lv1:=World.block_lt_of_cell? V _ v1
     have t4:(tt:Int) <(n:Int):=by omega
     obtain⟨x,hx⟩:∃x,x=of[tt]?.getD 0:=⟨_,rfl⟩
     have ZW:=zH hx
     have V9:x < n:=by rw [hx];exact HGN.out tt v9
     have t5:(x:Int) <(n:Int):=by omega
     have v2:V.cell? ⟨gb,tt,none⟩=some (.int .i64 (x:Int)):=uL HVw.out (by rw [hx];exact HG.out.cell (V8.out tt v9))
     have lv2:=World.block_lt_of_cell? V _ v2
     have v3:V.cell? ⟨w.heap.size+3,x,none⟩=some (.int .i64 (Ol x)):=by rw [ae HV.out.1.num,bW _ V9]
     have lv3:w.heap.size+3 < V.heap.size:=World.block_lt_of_cell? V _ v3
     have f3:∀y,V.frozen? ⟨w.heap.size+3,y,none⟩=false:=fun y=>ak HV.out.1.num y
     have v4:V.cell? ⟨W.heap.size,c,none⟩=some (.int .i64 0):=by
      refine HV.out.2.1.blk.cell ?_
      rw [List.getElem?_append_right (by rw [HV.out.2.2.2.2.1];exact Nat.le_refl _),HV.out.2.2.2.2.1,Nat.sub_self,List.getElem?_replicate,if_pos (by omega)]
     have lv4:W.heap.size < V.heap.size:=World.block_lt_of_cell? V _ v4
     have f4:∀y,V.frozen? ⟨W.heap.size,y,none⟩=false:=fun y=>HV.out.2.1.blk.fz y
     have hne:W.heap.size≠w.heap.size+3:=by omega
     clear v0 P9 hx
     subst e2
     rcases HV.out.2.2.2.1 x V9 with ⟨hA,hA2⟩ | ⟨j,u,hB,hB2,hB3⟩
     ·rw [hA] at v3
      have ZX:=zH hA2
      clear hA hA2
      have HZ:Hid (Nm (V.setCell ⟨w.heap.size+3,x,none⟩ (.int .i64 (m':Int))) (w.heap.size+3) (w1.heap.size+1) n (fun y=>if y=x then (m':Int) else Ol y) oh (.slice (some ⟨gD,0,none⟩) m' cap') vN vO rows outs vs∧Wa (V.setCell ⟨w.heap.size+3,x,none⟩ (.int .i64 (m':Int))) (w.heap.size+3) W.heap.size (.slice (some ⟨gD,0,none⟩) m' cap') vs (F++List.replicate (nc - c) 0)∧Only (fun b=>w.heap.size+3≤b) W0 (V.setCell ⟨w.heap.size+3,x,none⟩ (.int .i64 (m':Int)))):=⟨HV.out.1.Db x (m':Int),HV.out.2.1.Db x _,HV.out.2.2.2.2.2.2.setCell (p:=⟨w.heap.size+3,x,none⟩) (Nat.le_refl _) _⟩
      have hZs:(V.setCell ⟨w.heap.size+3,x,none⟩ (.int .i64 (m':Int))).heap.size=V.heap.size:=by simp [World.setCell]
      have ZY:Hid (((V.setCell ⟨w.heap.size+3,x,none⟩ (.int .i64 (m':Int))).alloc (.cells #[.int .i64 (tt:Int)] 3)).heap[V.heap.size]?=some (.cells #[.int .i64 (tt:Int)] 3 (0,0))∧((V.setCell ⟨w.heap.size+3,x,none⟩ (.int .i64 (m':Int))).alloc (.cells #[.int .i64 (tt:Int)] 3)).heap.size=V.heap.size+1):=by
       have:=heap_alloc_new (V.setCell ⟨w.heap.size+3,x,none⟩ (.int .i64 (m':Int))) (.cells #[.int .i64 (tt:Int)] 3)
       rw [hZs] at this
       exact⟨this,by rw [←hZs];simp⟩
      have HOWN:Hid (((V.setCell ⟨w.heap.size+3,x,none⟩ (.int .i64 (m':Int))).alloc (.cells #[.int .i64 (tt:Int)] 3)).ownsRow (w.heap.size+3+1) 3 1 (.slice (some ⟨gD,0,none⟩) m' cap') m' (iO oh)):=by
       have:=HZ.out.1.ET
       rw [HV.out.2.2.2.2.2.1] at this
       exact this.alloc _
      clear hZs
      go_wp2_with (at_builtin;(refine wpList_append_lies _ rfl _ _ 28 rfl (w.heap.size+3+1) 3 i3 (.int .i64 0) 1 8 Tryz.underlying28 g3 Iq Ir Iu rfl (by decide) (.slice (some ⟨gD,0,none⟩) m' cap') m' (iO oh) rfl HOWN.out ⟨V.heap.size,0,none⟩ 1 1 [.int .i64 (tt:Int)] rfl rfl (World.news_of_block (cs:=#[.int .i64 (tt:Int)]) ZY.out.1) (fun u hu=>by simp at hu;rcases hu with rfl;rfl) (by decide) (by unfold maxLen;omega) (by omega) (by rw [ZY.out.2];omega) (V.heap.size+1) ZY.out.2 ?_;intro g5 cap5 w5 hown5 gV jT vP;have BM:Only (fun b=>(Value.slice (some ⟨gD,0,none⟩) m' cap').ownBlock=some b) (V.setCell ⟨w.heap.size+3,x,none⟩ (.int .i64 (m':Int))) w5:=(((Only.refl (fun b=>(Value.slice (some ⟨gD,0,none⟩) m' cap').ownBlock=some b) (V.setCell ⟨w.heap.size+3,x,none⟩ (.int .i64 (m':Int)))).alloc _)).grown gV (fun k hk=>hk);have Ye:Hid (Nm w5 (w.heap.size+3) (w1.heap.size+1) n (fun y=>if y=x then (m':Int) else Ol y) (oh++[tt]) (.slice (some ⟨g5,0,none⟩) (m'+1) cap5) vN vO rows outs vs∧Wa w5 (w.heap.size+3) W.heap.size (.slice (some ⟨g5,0,none⟩) (m'+1) cap5) vs (F++List.replicate (nc - c) 0)∧Only (fun b=>w.heap.size+3≤b) W0 w5):=(by have g_:=HV.out.2.2.2.2.2.1;have hsz:(V.setCell ⟨w.heap.size+3,x,none⟩ (.int .i64 (m':Int))).heap.size≤V.heap.size+1:=(by simp [World.setCell]);have k1:=HZ.out.1.yK (t:=tt) (g:=g5) (cap:=cap5) BM (by rw [g_];exact hown5) jT hsz;rw [g_] at k1;exact⟨k1,HZ.out.2.1.yK BM jT hsz,HZ.out.2.2.trans (BM.mono (fun b hb=>yM HZ.out.1.ET b hb))⟩);have d5:w5.cell? ⟨w.heap.size+3,x,none⟩=some (.int .i64 (m':Int)):=(by rw [ae Ye.out.1.num,bW _ V9,if_pos rfl]);have d6:w5.cell? ⟨W.heap.size,c,none⟩=some (.int .i64 0):=(by refine Ye.out.2.1.blk.cell ?_;rw [List.getElem?_append_right (by rw [HV.out.2.2.2.2.1];exact Nat.le_refl _),HV.out.2.2.2.2.1,Nat.sub_self,List.getElem?_replicate,if_pos (by omega)]);have f6:∀y,w5.frozen? ⟨W.heap.size,y,none⟩=false:=(fun y=>Ye.out.2.1.blk.fz y);have l5:=World.block_lt_of_cell? w5 _ d5;have l6:=World.block_lt_of_cell? w5 _ d6;clear hown5 gV jT BM))
      go_roundg (nc -(c+1))
      case measure=>omega
      case rel=>
       obtain⟨k1,k2,k3⟩:=Ye.out
       obtain⟨_,_,Om,Iz,hF,g_,_⟩:=HV.out
       have hS2:=k2.set c m'
       rw [EW hF hlc] at hS2
       have hnew:=Om.new (u:=tt) v9 (fun i t ht he=>ZX.out i t ht (by rw [ZW.out];exact (HE.out t tt (Om.cm.lt i t ht) v9).2 he)) (by rw [hF,←HTT.out];exact Hm.Ip.refl _)
       rw [g_] at hnew
       have hk2:=Iz.new x tt ZW.out
       rw [g_] at hk2
       exact⟨g5,cap5,m'+1,c+1,_,rfl,rfl,by omega,rfl,by go_num,oh++[tt],_,F++[m'],k1.KP k2 c _,hS2,hnew,hk2,by simp [hF],by simp [g_],k3.setCell (p:=⟨W.heap.size,c,none⟩) (by show w.heap.size+3≤W.heap.size;omega) _⟩
     ·rw [hB] at v3
      have HOLD:Hid (oh[j]?=some u∧of[u]?.getD 0=x):=⟨hB2,hB3⟩
      have hne1:((j:Int)==-1)=false:=by rw [beq_eq_false_iff_ne];omega
      clear hB hB2 hB3
      go_wp2_with fail
      go_roundg (nc -(c+1))
      case measure=>omega
      case rel=>
       obtain⟨k1,k2,Om,Iz,hF,g_,k3⟩:=HV.out
       have hS2:=k2.set c j
       rw [EW hF hlc] at hS2
       have hold:=Om.old HOLD.out.1 (by rw [hF,←HTT.out];exact (HE.out u tt (Om.cm.lt j u HOLD.out.1) v9).1 (by rw [HOLD.out.2,ZW.out]))
       exact⟨gD,cap',m',c+1,_,rfl,rfl,by omega,rfl,by go_num,oh,Ol,F++[j],k1.KP k2 c _,hS2,hold,Iz,by simp [hF],g_,k3.setCell (p:=⟨W.heap.size,c,none⟩) (by show w.heap.size+3≤W.heap.size;omega) _⟩
    ·have t3:decide ((c:Int) <(nc:Int))=false:=decide_eq_false (by omega)
     have hcn:c=nc:=by omega
     obtain⟨aN,kN,eN⟩:=ah HV.out.1.nx
     obtain⟨aO,kO,eO⟩:=ah HV.out.1.out
     have jP:=Az.out.2.2.2.1
     have hro:outs.length=i:=by rw [←jP];exact Az.out.2.1.mK
     rw [jP] at eN
     rw [hro] at eO
     subst eN
     subst eO
     have HF:Hid (F.length=nc∧Wa V (w.heap.size+3) W.heap.size (.slice (some ⟨gD,0,none⟩) m' cap') vs F∧rows.length=i∧outs.length=i):=by
      obtain⟨_,hWa,_,_,hF,_⟩:=HV.out
      rw [hcn,Nat.sub_self,List.replicate_zero,List.append_nil] at hWa
      exact⟨by omega,hWa,jP,hro⟩
     clear jP hro
     have lVn:w.heap.size+3 < V.heap.size:=(Array.getElem?_eq_some_iff.1 HV.out.1.num).1
     have lVl:w1.heap.size+1 < V.heap.size:=(Array.getElem?_eq_some_iff.1 HV.out.1.iE).1
     have v1:V.cell? ⟨w1.heap.size+1,0,none⟩=some (.slice aN i kN):=ae HV.out.1.iE
     have Yf:Hid ((V.alloc (.cells #[.slice (some ⟨W.heap.size,0,none⟩) nc nc] 28)).heap[V.heap.size]?=some (.cells #[.slice (some ⟨W.heap.size,0,none⟩) nc nc] 28 (0,0))∧(V.alloc (.cells #[.slice (some ⟨W.heap.size,0,none⟩) nc nc] 28)).heap.size=V.heap.size+1):=⟨heap_alloc_new V _,by simp⟩
     have HOWN:Hid ((V.alloc (.cells #[.slice (some ⟨W.heap.size,0,none⟩) nc nc] 28)).ownsRow (w.heap.size+3+1) 28 1 (.slice aN i kN) i vs):=by
      have:=HV.out.1.nx
      rw [HF.out.2.2.1] at this
      exact this.alloc _
     go_wp2_with (at_builtin;(refine wpList_append_lies _ rfl _ _ 69 rfl (w.heap.size+3+1) 28 i23 (.slice none 0 0) 1 24 Tryz.underlying69 g23 Oc Od Oe rfl (by decide) (.slice aN i kN) i vs rfl HOWN.out ⟨V.heap.size,0,none⟩ 1 1 [.slice (some ⟨W.heap.size,0,none⟩) nc nc] rfl rfl (World.news_of_block (cs:=#[.slice (some ⟨W.heap.size,0,none⟩) nc nc]) Yf.out.1) (fun u hu=>by simp at hu;rcases hu with rfl;rfl) (by decide) (by unfold maxLen;omega) (by omega) (by rw [Yf.out.2];omega) (V.heap.size+1) Yf.out.2 ?_;intro g6 cap6 w6 hown6 KS GN abr;have BM:Only (fun b=>(Value.slice aN i kN).ownBlock=some b) V w6:=(((Only.refl (fun b=>(Value.slice aN i kN).ownBlock=some b) V).alloc _)).grown KS (fun k hk=>hk);have H6:Hid (Nm (w6.setCell ⟨w1.heap.size+1,0,none⟩ (.slice (some ⟨g6,0,none⟩) (i+1) cap6)) (w.heap.size+3) (w1.heap.size+1) n Ol oh (.slice (some ⟨gD,0,none⟩) m' cap') (.slice (some ⟨g6,0,none⟩) (i+1) cap6) (.slice aO i kO) (rows++[F]) outs (vs++[.slice (some ⟨W.heap.size,0,none⟩) nc nc])∧Only (fun b=>w.heap.size+3≤b) W0 (w6.setCell ⟨w1.heap.size+1,0,none⟩ (.slice (some ⟨g6,0,none⟩) (i+1) cap6))):=(by obtain⟨hF,hWa,jP,hro⟩:=HF.out;have ha:=hWa.own (by rw [hF];unfold maxLen;omega);rw [hF] at ha;have k1:=HV.out.1.Su (F:=F) (g:=g6) (cap:=cap6) (vW:=.slice (some ⟨W.heap.size,0,none⟩) nc nc) (by rw [hF];exact ha) hWa.ne BM (by rw [jP];exact hown6);rw [jP] at k1;exact⟨k1,(HV.out.2.2.2.2.2.2.trans (BM.mono (fun b hb=>yM HV.out.1.nx b hb))).setCell (p:=⟨w1.heap.size+1,0,none⟩) (by show w.heap.size+3≤w1.heap.size+1;omega) _⟩);have b6:=(BM.block _ lVl (own_ne HV.out.1.nx HV.out.1.iE (by decide))).trans HV.out.1.iE;have d6:w6.cell? ⟨w1.heap.size+1,0,none⟩=some (.slice aN i kN):=ae b6;have f6:∀y,w6.frozen? ⟨w1.heap.size+1,y,none⟩=false:=(fun y=>ak b6 y);have l6:w1.heap.size+1 < w6.heap.size:=World.block_lt_of_cell? w6 _ d6;clear hown6 KS GN BM b6))
     obtain⟨Y,hY⟩:∃Y,Y=w6.setCell ⟨w1.heap.size+1,0,none⟩ (.slice (some ⟨g6,0,none⟩) (i+1) cap6):=⟨_,rfl⟩
     rw [←hY] at H6 ⊢
     clear hY d6 f6 l6 v1 Yf HOWN
     have ZQ:Hid (Only (fun _=>False) w Y):=p8 HOW.out H6.out.2 (by omega)
     have HAY:Hid (Y.heap[w.heap.size]?=some (.cells #[.slice (some ⟨bn,on,none⟩) n cN,.slice (some ⟨bo,oo,none⟩) n co] 71 (0,0))):=(H6.out.2.block _ (Array.getElem?_eq_some_iff.1 Uk.out).1 (by omega)).trans Uk.out
     have y1:Y.cell? ⟨w1.heap.size+1,1,none⟩=some (.slice aO i kO):=ae H6.out.1.iE
     have fy:∀x,Y.frozen? ⟨w1.heap.size+1,x,none⟩=false:=fun x=>ak H6.out.1.iE x
     have y2:Y.cell? ⟨w.heap.size,1,none⟩=some (.slice (some ⟨bo,oo,none⟩) n co):=ae HAY.out
     have hs':oh[i]?=some s:=HV.out.2.2.1.pre i s HS.out
     have abt:i < m':=by have h1:=(List.getElem?_eq_some_iff.1 hs').1;have h2:=HV.out.2.2.2.2.2.1;omega
     have t6:(i:Int) <(m':Int):=by omega
     have y3:Y.cell? ⟨gD,i,none⟩=some (.int .i64 (s:Int)):=by
      obtain⟨g,cap',hv,_,_,hcc⟩:=bU H6.out.1.ET (by have:=HV.out.2.2.2.2.2.1;omega)
      injection hv with hv1
      injection hv1 with hv1
      injection hv1 with hv1
      rw [hv1]
      exact hcc i _ (by unfold iO;rw [List.getElem?_map,hs'];rfl)
     have y4:Y.cell? ⟨bo,oo+s,none⟩=some (.int .u32 (O s:Int)):=uL ZQ.out (HO.out s hsn)
     have ly1:w1.heap.size+1 < Y.heap.size:=World.block_lt_of_cell? Y _ y1
     have ly2:w.heap.size < Y.heap.size:=World.block_lt_of_cell? Y _ y2
     have ly3:=World.block_lt_of_cell? Y _ y3
     have ly4:=World.block_lt_of_cell? Y _ y4
     have ZZ:Hid (Y.ownsRow (w.heap.size+3+1) 32 1 (.slice aO i kO) i (outs.map jw)):=by
      have:=H6.out.1.out
      rw [HF.out.2.2.2] at this
      exact this
     clear hs'
     go_region_law (refine step_append_lies _ (by rfl) _ _ _ (by rfl) (w.heap.size+3+1) 32 i38 _ 1 4 Tryz.underlying65 g38 ZT ZU ZV rfl (by decide) (.slice aO i kO) i (outs.map jw) (by rfl) (by exact ZZ.out.alloc _) ⟨Y.heap.size,0,none⟩ 1 1 [.int .u32 (O s:Int)] (by rfl) rfl (World.news_of_block (cs:=#[.int .u32 (O s:Int)]) (heap_alloc_new Y (.cells #[.int .u32 (O s:Int)] 32))) (fun u hu=>by simp at hu;rcases hu with rfl;rfl) (by decide) (by unfold maxLen;omega) (by omega) (by simp;omega) (Y.heap.size+1) (by simp) ?_;intro g7 Oo w7 jO KT Oq abu;have BM:Only (fun b=>(Value.slice aO i kO).ownBlock=some b) Y w7:=(((Only.refl (fun b=>(Value.slice aO i kO).ownBlock=some b) Y).alloc _).drew).grown KT (fun k hk=>hk);have H7:Hid (Nm (w7.setCell ⟨w1.heap.size+1,1,none⟩ (.slice (some ⟨g7,0,none⟩) (i+1) Oo)) (w.heap.size+3) (w1.heap.size+1) n Ol oh (.slice (some ⟨gD,0,none⟩) m' cap') (.slice (some ⟨g6,0,none⟩) (i+1) cap6) (.slice (some ⟨g7,0,none⟩) (i+1) Oo) (rows++[F]) (outs++[O s]) (vs++[.slice (some ⟨W.heap.size,0,none⟩) nc nc])∧Only (fun b=>w.heap.size+3≤b) W0 (w7.setCell ⟨w1.heap.size+1,1,none⟩ (.slice (some ⟨g7,0,none⟩) (i+1) Oo))):=(by obtain⟨hF,hWa,jP,hro⟩:=HF.out;have k1:=H6.out.1.Sv (o:=O s) (g:=g7) (cap:=Oo) BM (by rw [hro];exact jO);rw [hro] at k1;exact⟨k1,(H6.out.2.trans (BM.mono (fun b hb=>yM H6.out.1.out b hb))).setCell (p:=⟨w1.heap.size+1,1,none⟩) (by show w.heap.size+3≤w1.heap.size+1;omega) _⟩);have b7:=(BM.block _ ly1 (own_ne H6.out.1.out H6.out.1.iE (by decide))).trans H6.out.1.iE;have d7:w7.cell? ⟨w1.heap.size+1,1,none⟩=some (.slice aO i kO):=ae b7;have f7:∀y,w7.frozen? ⟨w1.heap.size+1,y,none⟩=false:=(fun y=>ak b7 y);have l7:w1.heap.size+1 < w7.heap.size:=World.block_lt_of_cell? w7 _ d7;clear jO KT Oq BM b7)
     all_goals
      go_wp2_with fail
      go_roundg (n -(i+1))
      case measure=>omega
      case rel=>
       obtain⟨k1,k2⟩:=H7.out
       obtain⟨hF,hWa,jP,hro⟩:=HF.out
       refine⟨gD,cap',m',i+1,_,rfl,rfl,rfl,by go_num,oh,Ol,rows++[F],outs++[O s],_,_,_,k1,Az.out.2.1.next (by rw [jP];exact HS.out) HV.out.2.2.1 hF,HV.out.2.2.2.1,by simp [jP],HV.out.2.2.2.2.2.1,k2⟩
  ·have t1:decide ((i:Int) <(m:Int))=false:=decide_eq_false (by omega)
   have abv:i=m:=by omega
   obtain⟨aN,kN,eN⟩:=ah Az.out.1.nx
   obtain⟨aO,kO,eO⟩:=ah Az.out.1.out
   subst eN
   subst eO
   have HRW:Hid (W.heap[w.heap.size+1]?=some (.cells #[.slice none 0 0,.slice none 0 0] 71 (0,0))):=(Az.out.2.2.2.2.2.block _ (Array.getElem?_eq_some_iff.1 Ij.out).1 (by omega)).trans Ij.out
   have x1:W.cell? ⟨w1.heap.size+1,0,none⟩=some (.slice aN rows.length kN):=ae Az.out.1.iE
   have x2:W.cell? ⟨w1.heap.size+1,1,none⟩=some (.slice aO outs.length kO):=ae Az.out.1.iE
   have x3:W.cell? ⟨w.heap.size+1,0,none⟩=some (.slice none 0 0):=ae HRW.out
   have x4:W.cell? ⟨w.heap.size+1,1,none⟩=some (.slice none 0 0):=ae HRW.out
   have fx:∀y,W.frozen? ⟨w.heap.size+1,y,none⟩=false:=fun y=>ak HRW.out y
   have lx1:w1.heap.size+1 < W.heap.size:=World.block_lt_of_cell? W _ x1
   have lx3:w.heap.size+1 < W.heap.size:=World.block_lt_of_cell? W _ x3
   go_wp2_with fail
   refine bodyPost_ret (v:=.agg #[.slice aN rows.length kN,.slice aO outs.length kO]) (results_cell_row rfl _ _ (w.heap.size+1) 71 #[.slice aN rows.length kN,.slice aO outs.length kO] (0,0) _ rfl (aa (aa HRW.out _) _) Tryz.underlying71 rfl V7) rfl ?_
   obtain⟨zo,Qa,Iz,jP,g_,Ah⟩:=Az.out
   have o1:=((Only.refl (fun b=>b=w.heap.size+1) W).setCell (p:=⟨w.heap.size+1,0,none⟩) rfl (.slice aN rows.length kN)).setCell (p:=⟨w.heap.size+1,1,none⟩) rfl (.slice aO outs.length kO)
   refine⟨_,rows,outs,come,rfl,⟨_,_,vs,rfl,zo.vl,?_,fun i r L hr hL=>?_,?_⟩,Qa.done (by omega),?_⟩
   ·rw [zo.vl]
    exact fA (aQ zo.nx o1 (fun q hq e=>by have:=(bz zo.nx hq).1;omega)) (by omega)
   ·exact fA (aQ (zo.each i r L hr hL) o1 (fun q hq e=>by have:=(bz (zo.each i r L hr hL) hq).1;omega)) (by omega)
   ·exact fA (aQ zo.out o1 (fun q hq e=>by have:=(bz zo.out hq).1;omega)) (by omega)
   ·exact ((p8 HOW.out Ah (by omega)).mono (S':=fun b=>b=w.heap.size+1) (fun _ h=>h.elim)).trans o1 |>.old (fun g hg=>Or.inl (by omega))
end Go.Proofs.YtdlabakleldgaaaGreatDoor.L
