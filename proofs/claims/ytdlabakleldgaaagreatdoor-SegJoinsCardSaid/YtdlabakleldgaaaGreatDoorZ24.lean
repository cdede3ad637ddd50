/- LBs Tn6 -/
import Derived.Test.YtdlabakleldgaaaGreatDoorProg
import Derived.Test.YtdlabakleldgaaaGreatDoorZ23
import Derived.WalkKit
import Derived.WalkSpells
import Derived.WalkLawsBesides
import Derived.OwnWalk
import Derived.Maps.AppendAt
import Derived.Deep.LoopGhost
import Derived.Deep.AppendLies
import Derived.BigRegion
import Derived.BigQuiet
import Derived.Deep.MidRow
import Derived.Below
import Derived.Deep.RegionHeld3
import Derived.Deep.CutRange
import Derived.Test.YtdlabakleldgaaaGreatDoorZ00
set_option linter.unusedVariables false
set_option linter.unusedSimpArgs false
set_option maxRecDepth 100000
set_option maxHeartbeats 8000000
namespace Go.Proofs.YtdlabakleldgaaaGreatDoor.L
open Go.RowKit Go.Maps
structure Only (S:Nat→Prop) (w w':World):Prop where
 os:w'.os=w.os
 tape:w'.tape=w.tape
 output:w'.output=w.output
 size:w.heap.size≤w'.heap.size
 block:∀g,g < w.heap.size→¬ S g→w'.heap[g]?=w.heap[g]?
theorem Only.refl (S:Nat→Prop) (w:World):Only S w w:=⟨rfl,rfl,rfl,Nat.le_refl _,fun _ _ _=>rfl⟩
theorem Only.trans {S:Nat→Prop} {a b c:World} (h:Only S a b) (k:Only S b c):Only S a c:=
 ⟨k.os.trans h.os,k.tape.trans h.tape,k.output.trans h.output,Nat.le_trans h.size k.size,fun g hg hS=>(k.block g (Nat.lt_of_lt_of_le hg h.size) hS).trans (h.block g hg hS)⟩
theorem Only.alloc {S:Nat→Prop} {a w:World} (h:Only S a w) (o:Obj):Only S a (w.alloc o):=
 h.trans ⟨rfl,rfl,rfl,by simp,fun g hg _=>Below.heap_alloc _ _ _ hg⟩
theorem Only.setCell {S:Nat→Prop} {a w:World} (h:Only S a w) {p:Addr} (hp:S p.block) (u:Value):Only S a (w.setCell p u):=
 h.trans ⟨rfl,rfl,rfl,by simp [World.setCell],fun g hg hS=>Below.heap_setCell _ _ _ _ (fun e=>hS (e ▸ hp))⟩
theorem Only.grown {S:Nat→Prop} {a w w':World} {row:Option Nat} (h:Only S a w) (hg:w.grownBy w' row) (hr:∀k,row=some k→S k):Only S a w':=
 h.trans ⟨hg.os,hg.tape,hg.output,hg.size,fun g hgl hS=>hg.block g hgl (fun e=>hS (hr g e.symm))⟩
theorem Only.drew {S:Nat→Prop} {a w:World} (h:Only S a w):Only S a w.drew:=⟨h.os,h.tape,h.output,h.size,h.block⟩
theorem Only.drewN {S:Nat→Prop} {a w:World} (h:Only S a w) (n:Nat):Only S a (w.drewN n):=⟨h.os,h.tape,h.output,h.size,h.block⟩
theorem Only.mono {S S':Nat→Prop} {a w:World} (h:Only S a w) (hS:∀g,S g→S' g):Only S' a w:=⟨h.os,h.tape,h.output,h.size,fun g hg hn=>h.block g hg (fun hs=>hn (hS g hs))⟩
theorem Only.old {P Q:Nat→Prop} {w0 w:World} (h:Only P w0 w) (hP:∀g,P g→w0.heap.size≤g∨Q g):Only Q w0 w:=⟨h.os,h.tape,h.output,h.size,fun g hg hn=>h.block g hg (fun hp=>(hP g hp).elim (fun h=>by omega) hn)⟩
theorem cell_of_row (w:World) (b i:Nat) (cs:Array Value) (t:TypeId) (z:Nat × Nat) (h:w.heap[b]?=some (.cells cs t z)):w.cell? ⟨b,i,none⟩=cs[i]?:=by
 simp [World.cell?,h]
theorem aa {w:World} {b k:Nat} {cs:Array Value} {t:TypeId} {z:Nat × Nat} (h:w.heap[b]?=some (.cells cs t z)) (v:Value):(w.setCell ⟨b,k,none⟩ v).heap[b]?=some (.cells (cs.setIfInBounds k v) t z):=by
 obtain⟨hb,e⟩:=Array.getElem?_eq_some_iff.1 h
 simp [World.setCell,hb,Array.getElem_modify,e]
theorem ae {w:World} {b k:Nat} {cs:Array Value} {t:TypeId} (h:w.heap[b]?=some (.cells cs t (0,0))):w.cell? ⟨b,k,none⟩=cs[k]?:=cell_of_row _ _ _ _ _ _ h
theorem ak {w:World} {b:Nat} {cs:Array Value} {t:TypeId} (h:w.heap[b]?=some (.cells cs t (0,0))) (k:Nat):w.frozen? ⟨b,k,none⟩=false:=by simp [World.frozen?,h]
theorem info_parts {P:Program} {e:TypeId} {z:Value} {n b:Nat} (h:(P.info? e).map (fun i=>(i.zero,i.size,i.bytes))=some (some z,n,b)):∃i,P.info? e=some i∧i.zero=some z∧i.size=n∧i.bytes=b:=by
 cases hi:P.info? e with
 | none=>rw [hi] at h;cases h
 | some i=>
  rw [hi] at h
  simp only [Option.map_some,Option.some.injEq,Prod.mk.injEq] at h
  exact⟨i,rfl,h.1,h.2.1,h.2.2⟩
theorem ah {w:World} {base e size n:Nat} {v:Value} {xs:List Value} (h:w.ownsRow base e size v n xs):∃a cap,v=.slice a n cap:=by
 obtain⟨hl,⟨hv,h0⟩ | ⟨g,cap,cur,hv,_⟩⟩:=h
 ·subst h0;exact⟨none,0,hv⟩
 ·exact⟨_,cap,hv⟩
theorem ai {w w':World} {base e size n:Nat} {v:Value} {xs:List Value} {P:Nat→Prop} (h:w.ownsRow base e size v n xs) (ho:Only P w w') (hP:∀g,base≤g→¬ P g):w'.ownsRow base e size v n xs:=by
 obtain⟨hl,h | ⟨g,cap,cur,hv,hb,hh,h1⟩⟩:=h
 ·exact⟨hl,Or.inl h⟩
 ·exact⟨hl,Or.inr ⟨g,cap,cur,hv,hb,(ho.block g (Array.getElem?_eq_some_iff.1 hh).1 (hP g hb)).trans hh,h1⟩⟩
theorem ax {w:World} {base e size n:Nat} {v:Value} {xs:List Value} (h:w.ownsRow base e size v n xs) (hn:0 < n):
  ∃g cap,v=.slice (some ⟨g,0,none⟩) n cap∧base≤g∧g < w.heap.size∧n≤cap∧∀j,j < n*size→w.cell? ⟨g,j,none⟩=xs[j]?:=by
 obtain⟨hl,⟨hv,h0⟩ | ⟨g,cap,cur,hv,h1,h2,h3,h4,h5,h6⟩⟩:=h
 ·omega
 ·refine⟨g,cap,hv,h1,(Array.getElem?_eq_some_iff.1 h2).1,h3,fun j hj=>?_⟩
  rw [cell_of_row w g j cur e (0,0) h2,←h6,List.getElem?_take,if_pos hj]
  simp
theorem uE {w:World} {base e size n:Nat} {v:Value} {xs:List Value} (h:w.ownsRow base e size v n xs) (hv:v≠.slice none 0 0):∃g cap,v=.slice (some ⟨g,0,none⟩) n cap∧base≤g∧g < w.heap.size∧n≤cap:=by
 obtain⟨_,⟨e,_⟩ | ⟨g,cap,cur,e,hb,hh,hc,_⟩⟩:=h
 ·exact (hv e).elim
 ·exact⟨g,cap,e,hb,(Array.getElem?_eq_some_iff.1 hh).1,hc⟩
theorem bU {w:World} {base e n:Nat} {v:Value} {xs:List Value} (h:w.ownsRow base e 1 v n xs) (hn:0 < n):∃g cap,v=.slice (some ⟨g,0,none⟩) n cap∧g < w.heap.size∧n≤maxLen∧∀j u,xs[j]?=some u→w.cell? ⟨g,j,none⟩=some u:=by
 obtain⟨hl,⟨hv,h0⟩ | ⟨g,cap,cur,hv,hb,hh,h1,h2,h3,h4⟩⟩:=h
 ·omega
 ·refine⟨g,cap,hv,(Array.getElem?_eq_some_iff.1 hh).1,by omega,fun j u hj=>?_⟩
  refine (cell_of_row _ _ _ _ _ _ hh).trans ?_
  have hjl:=(List.getElem?_eq_some_iff.1 hj).1
  rw [←h4,List.getElem?_take] at hj
  split at hj
  ·rw [Array.getElem?_toList] at hj
   exact hj
  ·cases hj
theorem KE {w:World} {base e size n c:Nat} {a:Option Addr} {xs:List Value} (h:w.ownsRow base e size (.slice a n c) n xs):n≤c:=by
 obtain⟨_,⟨e,h0⟩ | ⟨g',cap',cur,e,hb,hh,hc,hm,_⟩⟩:=h
 ·injection e with _ e1 e2
  omega
 ·injection e with _ _ e
  omega
theorem ja (w:World) (v:Value) (t:TypeId):∀(j:Nat) (u:Value),[v][j]?=some u→(w.alloc (.cells #[v] t)).cell? ((⟨w.heap.size,0,none⟩:Addr).add j)=some u:=by
 intro j u hj
 have hj0:=(List.getElem?_eq_some_iff.1 hj).1
 obtain rfl:j=0:=by simpa using hj0
 injection hj with hj
 subst hj
 rw [Addr.add_mid]
 exact (cell_of_row _ _ _ _ _ _ (heap_alloc_new w _)).trans rfl
theorem pU (w:World) (o p:Obj):((w.alloc o).alloc p).heap[w.heap.size]?=some o:=
 ((((Only.refl (fun _=>False) (w.alloc o)).alloc p).block w.heap.size (by simp) (fun h=>h))).trans (heap_alloc_new _ _)
def nums (l:List Nat):Array Value:=(l.map (fun (x:Nat)=>Value.int .i64 (x:Int))).toArray
theorem l9 (l:List Nat):(nums l).size=l.length:=by simp [nums]
theorem eY (l:List Nat) (i:Nat):(nums l)[i]?=l[i]?.map (fun (x:Nat)=>Value.int .i64 (x:Int)):=by simp [nums]
theorem KF (l:List Nat) (i x:Nat):(nums l).setIfInBounds i (.int .i64 (x:Int))=nums (l.set i x):=by
 apply Array.ext_getElem?
 intro j
 rw [eY,Array.getElem?_setIfInBounds,l9,List.getElem?_set,eY]
 split
 ·split
  ·rfl
  ·rfl
 ·rfl
theorem KG {w:World} {b i x:Nat} {l:List Nat} {t:TypeId} (h:w.heap[b]?=some (.cells (nums l) t (0,0))) (hx:l[i]?=some x):w.cell? ⟨b,i,none⟩=some (.int .i64 (x:Int)):=by
 rw [ae h,eY,hx]
 rfl
def Nb (w:World) (b:Nat) (l:List Nat):Prop:=w.heap[b]?=some (.cells (nums l) 3 (0,0))
theorem Nb.set {w:World} {b:Nat} {l:List Nat} (h:Nb w b l) (i x:Nat):Nb (w.setCell ⟨b,i,none⟩ (.int .i64 (x:Int))) b (l.set i x):=by
 unfold Nb
 rw [aa h,KF]
theorem Nb.off {w:World} {b c:Nat} {l:List Nat} (h:Nb w b l) (hn:b≠c) (i:Nat) (v:Value):Nb (w.setCell ⟨c,i,none⟩ v) b l:=(Below.heap_setCell _ _ _ _ hn).trans h
theorem Nb.lt {w:World} {b:Nat} {l:List Nat} (h:Nb w b l):b < w.heap.size:=(Array.getElem?_eq_some_iff.1 h).1
theorem Nb.only {S:Nat→Prop} {w w':World} {b:Nat} {l:List Nat} (h:Nb w b l) (ho:Only S w w') (hS:¬ S b):Nb w' b l:=(ho.block b h.lt hS).trans h
theorem Nb.cell {w:World} {b i x:Nat} {l:List Nat} (h:Nb w b l) (hx:l[i]?=some x):w.cell? ⟨b,i,none⟩=some (.int .i64 (x:Int)):=KG h hx
theorem Nb.fz {w:World} {b:Nat} {l:List Nat} (h:Nb w b l) (i:Nat):w.frozen? ⟨b,i,none⟩=false:=ak h i
end Go.Proofs.YtdlabakleldgaaaGreatDoor.L
namespace Go.Proofs.YtdlabakleldgaaaGreatDoor
open Go.RowKit Go.Maps
open Rl (Ex Small)
theorem uE {w:World} {base e size n:Nat} {v:Value} {xs:List Value} (h:w.ownsRow base e size v n xs) (hv:v≠.slice none 0 0):∃g cap,v=.slice (some ⟨g,0,none⟩) n cap∧base≤g∧g < w.heap.size∧n≤cap:=by
 obtain⟨_,⟨e,_⟩ | ⟨g,cap,cur,e,hb,hh,hc,_⟩⟩:=h
 ·exact (hv e).elim
 ·exact⟨g,cap,e,hb,(Array.getElem?_eq_some_iff.1 hh).1,hc⟩
theorem KE {w:World} {base e size n c:Nat} {a:Option Addr} {xs:List Value} (h:w.ownsRow base e size (.slice a n c) n xs):n≤c:=by
 obtain⟨_,⟨e,h0⟩ | ⟨g',cap',cur,e,hb,hh,hc,hm,_⟩⟩:=h
 ·injection e with _ e1 e2
  omega
 ·injection e with _ _ e
  omega
theorem VU:(Tryz.prog.info? 83).map (fun i=>(i.zero,i.size,i.bytes))=some (some (.slice none 0 0),1,24):=by kernel_rfl
theorem GA {w W:World} {z:Nat} (h:Only (fun _=>False) w W) (hz:w.heap.size≤z) (a b c:Value):Only (fun _=>False) w (aV W z a b c):=((h.aS (p:=⟨z,0,none⟩) hz a).aS (p:=⟨z,1,none⟩) hz b).aS (p:=⟨z,2,none⟩) hz c
theorem GD {W:World} {z x:Nat} (h:x≠z) (a b c:Value):(aV W z a b c).heap[x]?=W.heap[x]?:=(Below.heap_setCell _ _ _ _ h).trans ((Below.heap_setCell _ _ _ _ h).trans (Below.heap_setCell _ _ _ _ h))
mutual
theorem Te.here {W W':World} {F F':Nat→Prop} (hF:∀b,F b→∀o v,W.cell? ⟨b,o,none⟩=some v→F' b∧W'.cell? ⟨b,o,none⟩=some v):∀(e:Ex) (v:Value),Te W F e v→Te W' F' e v
 | .mk op set kids,v,h=>by
  unfold Te at h ⊢
  obtain⟨a,cap,h1,h2,h3,h4,h5,h6⟩:=h
  refine⟨a,cap,h1,h2,h3,h4,h5,fun hn=>?_⟩
  obtain⟨b,off,g1,g2,g3⟩:=h6 hn
  refine⟨b,off,g1,?_,cZ.here hF kids b off g2 g3⟩
  cases kids with
  | nil=>exact absurd rfl hn
  | cons e es=>
   unfold cZ at g3
   obtain⟨⟨o,s,k,q0,_⟩,_⟩:=g3
   exact (hF b g2 off o q0).1
theorem cZ.here {W W':World} {F F':Nat→Prop} (hF:∀b,F b→∀o v,W.cell? ⟨b,o,none⟩=some v→F' b∧W'.cell? ⟨b,o,none⟩=some v):∀(es:List Ex) (b off:Nat),F b→cZ W F es b off→cZ W' F' es b off
 | [],_,_,_,_=>by unfold cZ;trivial
 | e::es,b,off,hb,h=>by
  unfold cZ at h ⊢
  obtain⟨⟨o,s,k,h0,h1,h2,h3⟩,h4⟩:=h
  exact⟨⟨o,s,k,(hF b hb _ _ h0).2,(hF b hb _ _ h1).2,(hF b hb _ _ h2).2,Te.here hF e _ h3⟩,cZ.here hF es b (off+3) hb h4⟩
end
theorem KH (e:Ex) (op set:Int) (a:Option Addr) (m c:Nat) (w:World) (hT:Te w (fun b=>b < w.heap.size) e (.agg #[.int .u8 op,.int .u32 set,.slice a m c])) (hS:Small e) (hD:Au.dp e≤100):
  Calls Tryz.prog 59 #[.agg #[.int .u8 op,.int .u32 set,.slice a m c]] w fun e' w'=>∃v,e'=.returned v∧Te w' (fun b=>w.heap.size≤b∧b < w'.heap.size) (Au.turn e) v∧Only (fun _=>False) w w':=by
 obtain⟨w1,hw1⟩:∃w1,w1=(w.alloc (.cells #[.int .u8 op,.int .u32 set,.slice a m c] 117)).alloc (.cells #[.int .u8 0,.int .u32 0,.slice none 0 0] 117):=⟨_,rfl⟩
 have HW1:=zH hw1
 have lu:Hid (w1.heap.size=w.heap.size+1+1):=by show _=_;rw [hw1];simp
 have bu:Hid (Only (fun _=>False) w w1):=by show Only _ _ _;rw [hw1];exact ((Only.refl _ _).alloc _).alloc _
 have Il:Hid (Xb w1 (w.heap.size+1) (.int .u8 0) (.int .u32 0) (.slice none 0 0)):=by show Xb _ _ _ _ _;rw [hw1];exact heap_alloc2_new _ _ _
 have NZ:Hid (Te w1 (fun b=>b < w1.heap.size) e (.agg #[.int .u8 op,.int .u32 set,.slice a m c])):=Te.keep (Kp.only bu.out (fun _ _ h=>h)) (fun b h=>by have:=lu.out;omega) _ _ hT
 have XV:=zH hS
 have HDP:=zH hD
 obtain⟨G,hG⟩:∃G:World→Prop,G=fun W'=>cZ W' (R9 w1.heap.size) [Au.turn e] (w.heap.size+1+1) 0:=⟨_,rfl⟩
 have HG:=zH hG
 obtain⟨iL,hiL,hz0,hz1,hz2⟩:=info_parts VU
 clear hT hS hD hw1 hG
 go_enter Tryz.func59,Tryz.ntmps59
 go_wp2_with fail
 go_loopg [4] (X8 e) (fun gh v4 wr=>∃(rows:List iq) (g cap:Nat) (W:World),W=wr∧gh=EJ rows∧v4=.slice (some ⟨g,0,none⟩) rows.length cap∧(∃K,gU w1 W G K rows)∧W.ownsRow (w.heap.size+1+1) 83 1 (.slice (some ⟨g,0,none⟩) rows.length cap) rows.length (rows.map Aj)∧MJ rows)
 case atStart=>
  refine⟨[(w.heap.size+1+1,0,[e])],w.heap.size+1+1+1,1,_,rfl,by simp [EJ,jX],rfl,⟨fun _ _=>False,?_⟩,?_,?_⟩
  ·rw [HG.out,←HW1.out]
   have hb:((w1.alloc (.cells #[.int .u8 op,.int .u32 set,.slice a m c] 117)).alloc (.cells #[.slice (some ⟨w.heap.size+1+1,0,none⟩) 1 1] 83)).heap[w.heap.size+1+1]?=some (.cells #[.int .u8 op,.int .u32 set,.slice a m c] 117 (0,0)):=by rw [←lu.out];exact (Below.heap_alloc _ _ _ (by simp)).trans (heap_alloc_new _ _)
   have ho:Only (fun _=>False) w1 ((w1.alloc (.cells #[.int .u8 op,.int .u32 set,.slice a m c] 117)).alloc (.cells #[.slice (some ⟨w.heap.size+1+1,0,none⟩) 1 1] 83)):=((Only.refl _ _).alloc _).alloc _
   refine gU.start ho (by have:=lu.out;omega) ⟨_,hb⟩ ?_
   unfold cZ
   exact⟨⟨_,_,_,ae hb,ae hb,ae hb,Te.keep (Kp.only ho (fun _ _ h=>h)) (fun _ h=>h) _ _ NZ.out⟩,by unfold cZ;trivial⟩
  ·exact⟨rfl,Or.inr ⟨w.heap.size+1+1+1,1,#[.slice (some ⟨w.heap.size+1+1,0,none⟩) 1 1],rfl,Nat.le_succ _,by rw [←HW1.out,←lu.out];exact heap_alloc2_new _ _ _,Nat.le_refl _,by unfold maxLen;omega,rfl,rfl⟩⟩
  ·intro q r hq
   have hl:=(List.getElem?_eq_some_iff.1 hq).1
   simp at hl
   subst hl
   simp at hq
   subst hq
   refine⟨rfl,by simp,fun x hx=>?_,by simp,?_⟩
   ·simp at hx
    rw [hx]
    exact XV.out
   ·have:=HDP.out
    simp [Au.fO]
    omega
 case round=>
  obtain⟨rows,g,cap,W,hW,rfl,rfl,⟨K,hti⟩,hown,N8⟩:=hrel
  subst hW
  by_cases hr:rows=[]
  ·subst hr
   have hg:=hti.goal
   rw [HG.out] at hg
   have HOW:Hid (Only (fun _=>False) w1 W):=hti.on
   unfold cZ at hg
   obtain⟨⟨o',s',k',c0,c1,c2,hTe⟩,_⟩:=hg
   have HTR:=zH hTe
   obtain⟨top,ts,ta,tm,tc,hv⟩:∃top ts ta tm tc,Value.agg #[o',s',k']=.agg #[.int .u8 top,.int .u32 ts,.slice ta tm tc]:=by
    cases h:Au.turn e with
    | mk o s kids=>
     rw [h] at hTe
     obtain⟨a,cap,hv,_⟩:=hTe.kids
     exact⟨o,s,a,_,cap,hv⟩
   simp only [Value.agg.injEq,Array.mk.injEq,List.cons.injEq,and_true] at hv
   obtain⟨rfl,rfl,rfl⟩:=hv
   have HX:Hid (Xb W (w.heap.size+1) (.int .u8 0) (.int .u32 0) (.slice none 0 0)):=(HOW.out.block _ (by have:=lu.out;omega) (fun h=>h)).trans Il.out
   have x0:=HX.out.c0
   have x1:=HX.out.c1
   have x2:=HX.out.c2
   have f0:=HX.out.fz 0
   have f1:=HX.out.fz 1
   have f2:=HX.out.fz 2
   have l1:w.heap.size+1 < W.heap.size:=(Array.getElem?_eq_some_iff.1 HX.out).1
   have l2:w.heap.size+1+1 < W.heap.size:=World.block_lt_of_cell? W _ c0
   clear hti hown N8 hTe
   go_wp2_with fail
   refine bodyPost_ret (v:=.agg #[.int .u8 top,.int .u32 ts,.slice ta tm tc]) (aI rfl _ rfl (HX.out.aV _ _ _)) rfl ?_
   refine⟨_,rfl,Te.here (fun b hb o v hv=>⟨?_,?_⟩) _ _ HTR.out,GA (bu.out.trans HOW.out) (Nat.le_succ _) _ _ _⟩
   ·refine⟨by have hb:w1.heap.size≤b:=hb;have:=lu.out;omega,?_⟩
    show b <(aV W (w.heap.size+1) (.int .u8 top) (.int .u32 ts) (.slice ta tm tc)).heap.size
    rw [lG]
    exact World.block_lt_of_cell? W _ hv
   ·have hne:b≠w.heap.size+1:=by have hb:w1.heap.size≤b:=hb;have:=lu.out;omega
    exact (World.cell?_of_block (a:=⟨b,o,none⟩) (GD hne _ _ _)).trans hv
  ·obtain⟨init,r,rfl⟩:∃init r,rows=init++[r]:=⟨rows.dropLast,rows.getLast hr,(List.dropLast_concat_getLast hr).symm⟩
   obtain⟨b,off,es⟩:=r
   obtain⟨q1,q2,q3,q4,q5⟩:=N8.last
   simp only at q1 q2 q3 q4 q5
   subst q1
   obtain⟨n1,hn1⟩:∃n1,n1=init.length:=⟨_,rfl⟩
   have xQ:=zH hn1
   have hln:(init++[(b,0,es)]).length=n1+1:=by rw [hn1];simp
   rw [hln] at hown ⊢
   obtain⟨mm,hmm⟩:∃mm,mm=es.length:=⟨_,rfl⟩
   have KI:=zH hmm
   have abp:1≤mm:=by rw [hmm];exact List.length_pos_iff.2 q2
   have VV:mm≤5000:=by omega
   have hn5:n1≤500000:=by omega
   have cl:W.cell? ⟨g,n1,none⟩=some (.slice (some ⟨b,0,none⟩) mm mm):=by
    obtain⟨g',cap',hv,_,_,hc⟩:=L.bU hown (by omega)
    injection hv with hv
    injection hv with hv
    injection hv with hv
    subst hv
    refine hc n1 _ ?_
    rw [List.map_append,hn1,List.getElem?_append_right (by simp)]
    simp [Aj,hmm]
   have hcap:n1+1≤cap:=KE hown
   have hgb:w.heap.size+1+1≤g∧g < W.heap.size:=by
    obtain⟨g',cap',hv,h1,h2,_⟩:=uE hown (by intro e;cases e)
    injection hv with hv
    injection hv with hv
    injection hv with hv
    subst hv
    exact⟨h1,h2⟩
   have hgl:=hgb.2
   have Pq:=zH q3
   have HQ5:Hid (n1+5000*Au.fO es≤500000):=(by show _≤_;rw [hn1];exact q5)
   have HB1:Hid (w1.heap.size≤b):=(hti.ro (b,0,es) (by simp)).1
   obtain⟨CY,Sc⟩:∃CY,CY=EJ (init++[(b,0,es)]):=⟨_,rfl⟩
   have HWT:=zH Sc
   have J5:Hid (MK w1 W G (w.heap.size+1+1) g cap b n1 0 CY es init):=by
    have nd:=hti.nd
    rw [List.map_append,List.nodup_append] at nd
    refine⟨⟨K,hti.perm (fun r=>by simp [or_comm]) ?_⟩,?_,N8.init,by omega,?_⟩
    ·simp only [List.map_cons]
     rw [List.nodup_cons]
     refine⟨fun hm=>?_,nd.1⟩
     exact nd.2.2 b hm b (by simp) rfl
    ·rw [←hn1]
     rw [List.map_append] at hown
     exact ownsRow_pop (by simp [hn1]) hown
    ·rw [Sc,yt]
     simp [EJ]
   clear hti hown N8 hln q2 q3 q5 hn1 hmm Sc hgb q4
   have g1:(n1:Int)≤(cap:Int):=by omega
   go_wp2_with fail
   go_loopg [4,27] mm (fun gh v4 v27 wr=>∃(i:Nat) (rows:List iq) (g cap:Nat) (W:World),W=wr∧gh=mm - i∧i≤mm∧v4=.slice (some ⟨g,0,none⟩) rows.length cap∧v27=.int .i64 (i:Int)∧MK w1 W G (w.heap.size+1+1) g cap b n1 i CY es rows)
   case atStart=>exact⟨0,init,g,cap,W,rfl,rfl,Nat.zero_le _,by rw [xQ.out],rfl,J5.out⟩
   case round=>
    obtain⟨i,rows,g,cap,W,hW,rfl,hi,rfl,rfl,hin⟩:=hrel
    subst hW
    have HI:=zH hin
    by_cases hlt:i < mm
    ·have t1:(i:Int) <(mm:Int):=by omega
     have hil:i < es.length:=by have:=KI.out;omega
     obtain⟨e1,he1⟩:∃e1,es[i]?=some e1:=⟨_,List.getElem?_eq_getElem hil⟩
     have HE1:=zH he1
     have hsm:=Pq.out e1 (List.mem_of_getElem? he1)
     have hd:es.drop i=e1::es.drop (i+1):=by rw [List.drop_eq_getElem_cons hil,(List.getElem?_eq_some_iff.1 he1).2]
     obtain⟨K,ti⟩:=hin.ti
     obtain⟨_,⟨cs,hb⟩,hts⟩:=ti.ro (b,i*3,es.drop i) (by simp)
     simp only at hb hts
     rw [hd] at hts
     unfold cZ at hts
     obtain⟨⟨o',s',k',p0,p1,p2,hTe⟩,_⟩:=hts
     obtain⟨VW,set1,kids⟩:=e1
     have F9:=zH hsm
     obtain⟨a1,sM,hv,_⟩:=hTe.kids
     simp only [Value.agg.injEq,Array.mk.injEq,List.cons.injEq,and_true] at hv
     obtain⟨rfl,rfl,rfl⟩:=hv
     have HK:Hid (Calls Tryz.prog 83 #[.agg #[.int .u8 VW,.int .u32 set1,.slice a1 kids.length sM]] W (wE W (fun b=>b < w1.heap.size) VW kids)):=Gz _ VW set1 kids _ W hTe (by have:=hsm.kids.1;omega)
     have hbl:b < W.heap.size:=(Array.getElem?_eq_some_iff.1 hb).1
     have Ya:=zH hb
     have iC:=zH p2
     have hgg:w.heap.size+1+1≤g:=by
      obtain⟨g',cap',hv,h1,_⟩:=uE hin.ow (by intro e;cases e)
      injection hv with hv
      injection hv with hv
      injection hv with hv
      omega
     have hrl:rows.length≤600000:=by have:=hin.ln;omega
     have HWS:Hid (w1.heap.size≤W.heap.size):=ti.on.size
     clear hTe hb ti hin he1 hsm hd
     by_cases hk:kids=[]
     ·subst hk
      go_wp2_with (go_at_call 83;refine Calls.mono HK.out ?_;rintro e w5 ⟨a',rfl,df,hd5⟩;obtain rfl:a'=none:=(by rcases hd5 with ⟨_,h⟩ | ⟨h,_⟩;exact h;exact absurd rfl h);have d2:w5.cell? ⟨b,i*3+2,none⟩=some (.slice a1 0 sM):=(World.cell?_of_block (a:=⟨b,i*3+2,none⟩) (df.block b hbl (fun h=>h))).trans iC.out;have fz2:=ak ((df.block b hbl (fun h=>h)).trans Ya.out) (i*3+2);have hb5:b < w5.heap.size:=Nat.lt_of_lt_of_le hbl df.size;have oG:=zH df;clear df hd5)
      go_roundg (mm -(i+1))
      case measure=>omega
      case rel=>exact⟨i+1,rows,g,cap,_,rfl,rfl,by omega,rfl,by go_num,HI.out.Sa HE1.out oG.out HB1.out⟩
     ·have VQ:=zH hk
      obtain⟨kn,hkn⟩:∃kn,kn=kids.length:=⟨_,rfl⟩
      have VG:=zH hkn
      have hk1:0 <(kn:Int):=by rw [hkn];have:=List.length_pos_iff.2 hk;omega
      rw [←hkn] at HK iC
      rw [←hkn] at p2
      clear hk hkn
      go_wp2_with (first
       |(go_at_call 83;refine Calls.mono HK.out ?_;rintro e w5 ⟨a',rfl,df,hd5⟩;obtain⟨b',rfl,hb',X_,hts⟩:∃b',a'=some ⟨b',0,none⟩∧W.heap.size≤b'∧Tg w5 b'∧cZ w5 (fun b=>b < w1.heap.size) (kd VW kids) b' 0:=(by rcases hd5 with ⟨h,_⟩ | ⟨_,h⟩;exact absurd h VQ.out;exact h);rw [←VG.out];have d2:w5.cell? ⟨b,i*3+2,none⟩=some (.slice a1 kn sM):=(World.cell?_of_block (a:=⟨b,i*3+2,none⟩) (df.block b hbl (fun h=>h))).trans iC.out;have fz2:=ak ((df.block b hbl (fun h=>h)).trans Ya.out) (i*3+2);have hb5:b < w5.heap.size:=Nat.lt_of_lt_of_le hbl df.size;have oG:=zH df;have HTG:=zH X_;have HTS:=zH hts;have FZ:w.heap.size+1+1≤w5.heap.size:=(by have h1:=df.size;have h2:=HWS.out;have h3:=lu.out;omega);clear df hd5 X_ hts)
       |(at_builtin;refine wpList_append_own_at _ rfl _ _ 151 rfl (w.heap.size+1+1) 83 iL (.slice none 0 0) 1 24 Tryz.underlying151 hiL hz0 hz1 hz2 rfl (by decide) _ _ _ rfl ((HI.out.stored oG.out (.slice (some ⟨b',0,none⟩) kn kn)).alloc (.cells #[.slice (some ⟨b',0,none⟩) kn kn] 83)) ⟨w5.heap.size,0,none⟩ 1 1 [.slice (some ⟨b',0,none⟩) kn kn] rfl rfl (by have:=ja (w5.setCell ⟨b,i*3+2,none⟩ (.slice (some ⟨b',0,none⟩) kn kn)) (.slice (some ⟨b',0,none⟩) kn kn) 83;simpa using this) (fun u hu=>by simp at hu;subst hu;rfl) (by unfold maxLen;omega) (by omega) (by simp;omega) ?_;intro v6 w6 hown6 kE _ _;obtain⟨g6,cap6,rfl,Ri,Rj,Rk,_⟩:=ax hown6 (by omega)))
      go_roundg (mm -(i+1))
      case measure=>omega
      case rel=>
       rw [VG.out] at hown6 kE
       exact⟨i+1,rows++[(b',0,kd VW kids)],g6,cap6,w6,rfl,rfl,by omega,by rw [List.length_append];rfl,by go_num,HI.out.kids HE1.out VQ.out oG.out HB1.out (by have:=lu.out;omega) hgg F9.out HQ5.out (by have:=KI.out;omega) hb' HTG.out HTS.out hown6 kE⟩
    ·have t2:decide ((i:Int) <(mm:Int))=false:=decide_eq_false (by omega)
     obtain rfl:mm=i:=by omega
     have hdn:es.drop mm=[]:=List.drop_eq_nil_of_le (by have:=KI.out;omega)
     obtain⟨⟨K,ti⟩,ow,sh,ln,wt⟩:=HI.out
     rw [hdn] at ti wt
     have HT9:Hid (∃K,gU w1 W G K rows):=⟨K,ti.done⟩
     have HOWN:=zH ow
     have HSH:=zH sh
     have HWW:Hid (EJ rows+mm≤CY):=(by show _≤_;simp only [jX] at wt;omega)
     clear ti ow sh ln wt hdn hin
     go_wp2_with fail
     go_roundg (EJ rows)
     case measure=>have h1:=HWW.out;have h2:=HWT.out;omega
     case rel=>exact⟨rows,g,cap,W,rfl,rfl,rfl,HT9.out,HOWN.out,HSH.out⟩
end Go.Proofs.YtdlabakleldgaaaGreatDoor
