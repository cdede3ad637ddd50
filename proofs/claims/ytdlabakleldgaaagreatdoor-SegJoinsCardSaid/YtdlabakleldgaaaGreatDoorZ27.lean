/- LOg LWb LShelf LCm LSo -/
import Derived.Test.YtdlabakleldgaaaGreatDoorZ26
import Derived.Deep.OwnRows
import Derived.Shelf.SlSortCmp.Whole1
import Derived.Shelf.SlGeneric
import Derived.Ground.SlsfProg
import Derived.Test.YtdlabakleldgaaaGreatDoorProg
import Derived.Test.YtdlabakleldgaaaGreatDoorZ24
set_option linter.unusedVariables false
set_option linter.unusedSimpArgs false
set_option maxRecDepth 100000
set_option maxHeartbeats 8000000
namespace Go.Proofs.YtdlabakleldgaaaGreatDoor.L
open Go.RowKit Go.Maps
theorem kH:(Tryz.prog.info? 3).map (fun i=>(i.zero,i.size,i.bytes))=some (some (.int .i64 0),1,8):=by kernel_rfl
theorem uG (n:Nat):madeCells #[.int .i64 0] n=nums (List.replicate n 0):=by
 apply Array.ext
 ·simp [nums,size_madeCells]
 ·intro i h1 h2
  simp [madeCells,nums,Nat.mod_one]
def upto (n k:Nat):List Nat:=List.range k++List.replicate (n - k) 0
theorem Am {n k:Nat} (h:k≤n):(upto n k).length=n:=by simp [upto];omega
theorem qY (n:Nat):upto n 0=List.replicate n 0:=by simp [upto]
theorem wZ (n:Nat):upto n n=List.range n:=by simp [upto]
theorem uH {n k:Nat} (h:k < n):(upto n k).set k k=upto n (k+1):=by
 unfold upto
 rw [List.range_succ,List.set_append_right _ _ (by simp),List.length_range,Nat.sub_self,show n - k=(n -(k+1))+1 by omega,List.replicate_succ,List.set_cons_zero]
 simp
theorem Da {n p s:Nat} (hp:(List.range n)[p]?=some s):s=p∧p < n:=by
 have hl:=(List.getElem?_eq_some_iff.1 hp).1
 rw [List.length_range] at hl
 rw [List.getElem?_range hl] at hp
 injection hp with hp
 exact⟨hp.symm,hl⟩
theorem Sn {n s g:Nat} (h:(List.replicate n 0)[s]?=some g):g=0∧s < n:=by
 have hl:=(List.getElem?_eq_some_iff.1 h).1
 rw [List.length_replicate] at hl
 rw [List.getElem?_replicate,if_pos hl] at h
 injection h with h
 exact⟨h.symm,hl⟩
theorem Sq {n:Nat} (h:0 < n):Hm.Pt n (List.range n) (List.range n) (List.replicate n 0) [(0,n,0)] (fun _=>False):=by
 refine⟨by simp,by simp,by simp,fun p s hp=>?_,fun s p hp=>?_,fun s g hg=>?_,fun g f t d hg=>?_⟩
 ·obtain⟨rfl,hl⟩:=Da hp
  exact⟨hl,hp⟩
 ·obtain⟨rfl,hl⟩:=Da hp
  exact hp
 ·obtain⟨rfl,hl⟩:=Sn hg
  exact⟨0,n,0,s,rfl,List.getElem?_range hl,Nat.zero_le _,hl⟩
 ·have hl:=(List.getElem?_eq_some_iff.1 hg).1
  obtain rfl:g=0:=by simpa using hl
  simp at hg
  obtain⟨rfl,rfl,rfl⟩:=hg
  refine⟨h,Nat.le_refl _,by omega,fun p s h1 h2 hp=>⟨?_,by constructor <;> intro hh;omega;exact hh.elim⟩⟩
  obtain⟨rfl,hl⟩:=Da hp
  rw [List.getElem?_replicate,if_pos hl]
theorem four (w:World) (a b c x:Obj):(((((w.alloc a).alloc b).alloc c).alloc x).drew.heap[w.heap.size]?=some a∧((((w.alloc a).alloc b).alloc c).alloc x).drew.heap[w.heap.size+1]?=some b∧((((w.alloc a).alloc b).alloc c).alloc x).drew.heap[w.heap.size+1+1]?=some c∧((((w.alloc a).alloc b).alloc c).alloc x).drew.heap[w.heap.size+1+1+1]?=some x):=by
 have s1:(w.alloc a).heap.size=w.heap.size+1:=by simp
 have s2:((w.alloc a).alloc b).heap.size=w.heap.size+1+1:=by simp
 have s3:(((w.alloc a).alloc b).alloc c).heap.size=w.heap.size+1+1+1:=by simp
 have h1:=heap_alloc_new w a
 have h2:=heap_alloc_new (w.alloc a) b
 have h3:=heap_alloc_new ((w.alloc a).alloc b) c
 have h4:=heap_alloc_new (((w.alloc a).alloc b).alloc c) x
 rw [s1] at h2
 rw [s2] at h3
 rw [s3] at h4
 refine⟨?_,?_,?_,h4⟩
 ·exact (Below.heap_alloc _ _ _ (by omega)).trans ((Below.heap_alloc _ _ _ (by omega)).trans ((Below.heap_alloc _ _ _ (by omega)).trans h1))
 ·exact (Below.heap_alloc _ _ _ (by omega)).trans ((Below.heap_alloc _ _ _ (by omega)).trans h2)
 ·exact (Below.heap_alloc _ _ _ (by omega)).trans h3
theorem yD (n:Nat) (w:World) (h0:0 < n) (hn:n≤100000):Calls Tryz.prog 94 #[.int .i64 (n:Int)] w fun e w'=>∃gb rb ab ob vL,e=.returned (.pointer (some ⟨gb,0,none⟩))∧Ms w' gb rb ab ob n w.heap.size w'.heap.size vL (List.range n) (List.range n) (List.replicate n 0) [(0,n,0)]∧Only (fun _=>False) w w':=by
 have hmk:=fun (w:World)=>run_make_row' (P:=Tryz.prog) 28 3 (.int .i64 0) 8 Tryz.underlying28 kH rfl .i64 .i64 n (by omega) (by omega) w
 go_enter Tryz.func94,Tryz.ntmps94
 go_wp2_with fail
 go_cut [3] from 5 to 12 (fun v wr=>∃(gb rb ab ob:Nat) (W:World),W=wr∧v=.pointer (some ⟨gb,0,none⟩)∧Gb W gb rb ab ob n (.slice none 0 0)∧Nb W rb (List.replicate n 0)∧Nb W ab (List.replicate n 0)∧Nb W ob (List.replicate n 0)∧rb≠ab∧rb≠ob∧ab≠ob∧(w.heap.size≤gb∧w.heap.size≤rb∧w.heap.size≤ab∧w.heap.size≤ob)∧Only (fun _=>False) w W)
 case first=>
  go_region
  all_goals
   go_wp2_with fail
   go_meet
   case rel=>
    rw [uG]
    refine⟨_,_,_,_,_,rfl,rfl,(four w _ _ _ _).2.2.2,?_,?_,?_,by omega,by omega,by omega,by omega,((((((Only.refl _ _).alloc _).alloc _).alloc _).alloc _).drew)⟩
    ·first | exact (four w _ _ _ _).1 | exact (four w _ _ _ _).2.1 | exact (four w _ _ _ _).2.2.1
    ·first | exact (four w _ _ _ _).1 | exact (four w _ _ _ _).2.1 | exact (four w _ _ _ _).2.2.1
    ·first | exact (four w _ _ _ _).1 | exact (four w _ _ _ _).2.1 | exact (four w _ _ _ _).2.2.1
 case rest=>
  obtain⟨gb,rb,ab,ob,W,hW,rfl,hG,hr,ha,Ck,n1,n2,n3,hlo,ho⟩:=hcut
  subst hW
  have HW:Hid (Gb W gb rb ab ob n (.slice none 0 0)∧Nb W rb (List.replicate n 0)∧Nb W ab (List.replicate n 0)∧Nb W ob (List.replicate n 0)∧Only (fun _=>False) w W):=⟨hG,hr,ha,Ck,ho⟩
  clear hG hr ha Ck ho hmk
  go_wp2_with fail
  go_loopg [14] n (fun gh v wr=>∃(k:Nat) (Y:World),Y=wr∧gh=n - k∧k≤n∧v=.int .i64 (k:Int)∧Gb Y gb rb ab ob n (.slice none 0 0)∧Nb Y rb (upto n k)∧Nb Y ab (upto n k)∧Nb Y ob (List.replicate n 0)∧Only (fun b=>b=rb∨b=ab) W Y)
  case atStart=>exact⟨0,_,rfl,rfl,Nat.zero_le _,rfl,HW.out.1,by rw [qY];exact HW.out.2.1,by rw [qY];exact HW.out.2.2.1,HW.out.2.2.2.1,Only.refl _ _⟩
  case round=>
   obtain⟨k,Y,hY,rfl,hk,rfl,hG,hr,ha,Ck,ho⟩:=hrel
   subst hY
   have HY:Hid (Gb Y gb rb ab ob n (.slice none 0 0)∧Nb Y rb (upto n k)∧Nb Y ab (upto n k)∧Nb Y ob (List.replicate n 0)∧Only (fun b=>b=rb∨b=ab) W Y):=⟨hG,hr,ha,Ck,ho⟩
   have z0:Y.cell? ⟨gb,0,none⟩=some (.slice (some ⟨rb,0,none⟩) n n):=ae hG
   have z1:Y.cell? ⟨gb,1,none⟩=some (.slice (some ⟨ab,0,none⟩) n n):=ae hG
   have z3:Y.cell? ⟨gb,3,none⟩=some (.slice none 0 0):=ae hG
   have fg:∀x,Y.frozen? ⟨gb,x,none⟩=false:=fun x=>ak hG x
   have EN:=hG.lt
   have hgr:=hG.ne hr
   have hga:=hG.ne ha
   by_cases hlt:k < n
   ·have t1:(k:Int) <(n:Int):=by omega
    obtain⟨x1,hx1⟩:∃x1,(upto n k)[k]?=some x1:=⟨_,List.getElem?_eq_getElem (by rw [Am hk];exact hlt)⟩
    have c1:=hr.cell hx1
    have c2:=ha.cell hx1
    have c3:(Y.setCell ⟨rb,k,none⟩ (.int .i64 (k:Int))).cell? ⟨ab,k,none⟩=some (.int .i64 (x1:Int)):=(ha.off (fun e=>n1 e.symm) _ _).cell hx1
    have f1:∀x,Y.frozen? ⟨rb,x,none⟩=false:=fun x=>hr.fz x
    have f2:∀x,(Y.setCell ⟨rb,k,none⟩ (.int .i64 (k:Int))).frozen? ⟨ab,x,none⟩=false:=fun x=>(ha.off (fun e=>n1 e.symm) _ _).fz x
    have lrb:=hr.lt
    have lab:=ha.lt
    clear hG hr ha Ck ho hx1
    go_wp2_with fail
    go_region
    all_goals
     go_wp2_with fail
     go_roundg (n -(k+1))
     case measure=>omega
     case rel=>
      refine⟨k+1,_,rfl,rfl,by omega,by go_num,?_,?_,?_,?_,?_⟩
      ·exact (HY.out.1.off hgr _ _).off hga _ _
      ·have:=(HY.out.2.1.set k k).off (c:=ab) n1 k (.int .i64 (k:Int))
       rw [uH hlt] at this
       exact this
      ·have:=(HY.out.2.2.1.off (c:=rb) (fun e=>n1 e.symm) k (.int .i64 (k:Int))).set k k
       rw [uH hlt] at this
       exact this
      ·exact (HY.out.2.2.2.1.off (fun e=>n2 e.symm) _ _).off (fun e=>n3 e.symm) _ _
      ·exact ((HY.out.2.2.2.2.setCell (p:=⟨rb,k,none⟩) (Or.inl rfl) _).setCell (p:=⟨ab,k,none⟩) (Or.inr rfl) _).drew
   ·have t2:decide ((k:Int) <(n:Int))=false:=decide_eq_false (by omega)
    have hkn:k=n:=by omega
    subst hkn
    clear hG hr ha Ck ho
    go_wp2_with fail
    go_ret
    obtain⟨Z,hZ⟩:∃Z,Z=Y.setCell ⟨gb,3,none⟩ (.slice (some ⟨Y.heap.size,0,none⟩) 1 1):=⟨_,rfl⟩
    have hZs:Z.heap.size=Y.heap.size:=by rw [hZ];simp [World.setCell]
    have hG1:Gb Z gb rb ab ob k (.slice (some ⟨Y.heap.size,0,none⟩) 1 1):=by rw [hZ];exact aa HY.out.1 _
    have hgo:=HY.out.1.ne HY.out.2.2.2.1
    have hr1:Nb Z rb (upto k k):=by rw [hZ];exact HY.out.2.1.off (fun e=>hgr e.symm) _ _
    have ha1:Nb Z ab (upto k k):=by rw [hZ];exact HY.out.2.2.1.off (fun e=>hga e.symm) _ _
    have ho1:Nb Z ob (List.replicate k 0):=by rw [hZ];exact HY.out.2.2.2.1.off (fun e=>hgo e.symm) _ _
    have hOZ:Only (fun b=>b=gb) Y Z:=by rw [hZ];exact (Only.refl (fun b=>b=gb) Y).setCell (p:=⟨gb,3,none⟩) rfl _
    have b1:=hG1.lt
    have b2:=hr1.lt
    have b3:=ha1.lt
    have b4:=ho1.lt
    rw [wZ] at hr1 ha1
    have hwY:w.heap.size≤Y.heap.size:=Nat.le_trans HW.out.2.2.2.2.size HY.out.2.2.2.2.size
    rw [←hZ]
    have hal:=(Only.refl (fun _=>False) Z).alloc (.cells #[.int .i64 0,.int .i64 (k:Int),.int .i64 0] 168)
    have hsz:(Z.alloc (.cells #[.int .i64 0,.int .i64 (k:Int),.int .i64 0] 168)).heap.size=Z.heap.size+1:=by simp
    refine⟨gb,rb,ab,ob,.slice (some ⟨Y.heap.size,0,none⟩) 1 1,rfl,⟨hG1.only hal (fun h=>h),hr1.only hal (fun h=>h),ha1.only hal (fun h=>h),ho1.only hal (fun h=>h),?_,n1,n2,n3,hlo,by omega,by simp,by simp;omega,hn⟩,?_⟩
    ·refine⟨rfl,Or.inr ⟨Y.heap.size,1,#[.int .i64 0,.int .i64 (k:Int),.int .i64 0],rfl,hwY,?_,Nat.le_refl _,by unfold maxLen;omega,rfl,rfl⟩⟩
     rw [←hZs]
     exact heap_alloc_new Z _
    ·have h1:Only (fun b=>b=rb∨b=ab∨b=gb) w (Z.alloc (.cells #[.int .i64 0,.int .i64 (k:Int),.int .i64 0] 168)):=(((HW.out.2.2.2.2.mono (fun _ h=>h.elim)).trans (HY.out.2.2.2.2.mono (fun b h=>h.elim Or.inl (fun h=>Or.inr (Or.inl h))))).trans (hOZ.mono (fun b h=>Or.inr (Or.inr h)))).alloc _
     exact h1.old (fun g hg=>Or.inl (by omega))
theorem bz {w:World} {base e size n q:Nat} {v:Value} {xs:List Value} (h:w.ownsRow base e size v n xs) (hq:v.ownBlock=some q):base≤q∧∃cur,w.heap[q]?=some (.cells cur e (0,0)):=by
 obtain⟨hl,⟨hv,h0⟩ | ⟨g,cap,cur,hv,h1,h2,_⟩⟩:=h
 ·rw [hv] at hq;cases hq
 ·rw [hv] at hq
  injection hq with hq
  subst hq
  exact⟨h1,cur,h2⟩
theorem aQ {S:Nat→Prop} {w w':World} {base e size n:Nat} {v:Value} {xs:List Value} (h:w.ownsRow base e size v n xs) (ho:Only S w w') (hS:∀q,v.ownBlock=some q→¬ S q):w'.ownsRow base e size v n xs:=by
 obtain⟨hl,h | ⟨g,cap,cur,hv,h1,h2,h3⟩⟩:=h
 ·exact⟨hl,Or.inl h⟩
 ·exact⟨hl,Or.inr ⟨g,cap,cur,hv,h1,(ho.block g (Array.getElem?_eq_some_iff.1 h2).1 (hS g (by rw [hv];rfl))).trans h2,h3⟩⟩
def rowOf (n:Nat) (vs:Nat→Value):Array Value:=((List.range n).map vs).toArray
theorem bW {n i:Nat} (vs:Nat→Value) (h:i < n):(rowOf n vs)[i]?=some (vs i):=by
 unfold rowOf
 rw [List.getElem?_toArray,List.getElem?_map,List.getElem?_range h]
 rfl
theorem dL (n:Nat) (vs:Nat→Value):(rowOf n vs).size=n:=by simp [rowOf]
theorem mi {n i:Nat} (vs:Nat→Value) (v:Value):(rowOf n vs).setIfInBounds i v=rowOf n (fun j=>if j=i then v else vs j):=by
 apply Array.ext_getElem?
 intro j
 rw [Array.getElem?_setIfInBounds,dL]
 by_cases hj:j < n
 ·rw [bW _ hj,bW _ hj]
  by_cases e:i=j
  ·subst e;simp [hj]
  ·rw [if_neg e,if_neg (fun h=>e h.symm)]
 ·have e1:(rowOf n vs)[j]?=none:=Array.getElem?_eq_none (by rw [dL];omega)
  have e2:(rowOf n (fun j=>if j=i then v else vs j))[j]?=none:=Array.getElem?_eq_none (by rw [dL];omega)
  rw [e1,e2]
  split
  ·rename_i e;subst e;rw [if_neg hj]
  ·rfl
structure Bw (W:World) (base n bc:Nat) (bk:Nat→List Nat) (vs:Nat→Value):Prop where
 blk:W.heap[bc]?=some (.cells (rowOf n vs) 28 (0,0))
 own:∀t,t < n→W.ownsRow base 3 1 (vs t) (bk t).length (nums (bk t)).toList
 sep:∀i j,i < n→j < n→i≠j→∀g,(vs i).ownBlock=some g→(vs j).ownBlock≠some g
theorem Bw.start {W:World} {base n bc:Nat} (h:W.heap[bc]?=some (.cells (rowOf n (fun _=>.slice none 0 0)) 28 (0,0))):Bw W base n bc (fun _=>[]) (fun _=>.slice none 0 0):=
 ⟨h,fun t ht=>⟨rfl,Or.inl ⟨rfl,rfl⟩⟩,fun i j _ _ _ g hg=>by cases hg⟩
theorem Bw.step {Y w5:World} {base n bc tt s g cap H:Nat} {bk:Nat→List Nat} {vs:Nat→Value} (h:Bw Y base n bc bk vs) (ht:tt < n) (hO:Only (fun b=>(vs tt).ownBlock=some b) Y w5) (h5:w5.ownsRow base 3 1 (.slice (some ⟨g,0,none⟩) ((bk tt).length+1) cap) ((bk tt).length+1) ((nums (bk tt)).toList++[.int .i64 (s:Int)])) (hat:(vs tt).ownBlock=some g∨g=H) (hH:Y.heap.size≤H):
  Bw (w5.setCell ⟨bc,tt,none⟩ (.slice (some ⟨g,0,none⟩) ((bk tt).length+1) cap)) base n bc (fun i=>if i=tt then bk tt++[s] else bk i) (fun i=>if i=tt then .slice (some ⟨g,0,none⟩) ((bk tt).length+1) cap else vs i)∧Only (fun b=>(vs tt).ownBlock=some b∨b=bc) Y (w5.setCell ⟨bc,tt,none⟩ (.slice (some ⟨g,0,none⟩) ((bk tt).length+1) cap)):=by
 have hty:∀i,i < n→∀q,(vs i).ownBlock=some q→q≠bc:=fun i hi q hq e=>by
  obtain⟨_,cur,hc⟩:=bz (h.own i hi) hq
  rw [e,h.blk] at hc
  injection hc with hc
  injection hc with _ hc
  cases hc
 have hb5:w5.heap[bc]?=some (.cells (rowOf n vs) 28 (0,0)):=(hO.block bc (Array.getElem?_eq_some_iff.1 h.blk).1 (fun hs=>hty tt ht bc hs rfl)).trans h.blk
 have Nn:Only (fun b=>(vs tt).ownBlock=some b∨b=bc) Y (w5.setCell ⟨bc,tt,none⟩ (.slice (some ⟨g,0,none⟩) ((bk tt).length+1) cap)):=(hO.mono (S':=fun b=>(vs tt).ownBlock=some b∨b=bc) (fun b hb=>Or.inl hb)).setCell (p:=⟨bc,tt,none⟩) (Or.inr rfl) _
 have hlt:∀j,j < n→∀q,(vs j).ownBlock=some q→q < Y.heap.size:=fun j hj q hq=>by
  obtain⟨_,cur,hc⟩:=bz (h.own j hj) hq
  exact (Array.getElem?_eq_some_iff.1 hc).1
 have hnew:∀j,j < n→j≠tt→(vs j).ownBlock≠some g:=fun j hj hne hq=>by
  rcases hat with e | e
  ·exact h.sep tt j ht hj (fun e2=>hne e2.symm) g e hq
  ·have:=hlt j hj g hq;omega
 refine⟨⟨?_,fun t hh=>?_,fun i j hi hj hne q hq=>?_⟩,Nn⟩
 ·rw [aa hb5,mi]
 ·by_cases e:t=tt
  ·subst e
   simp only [if_true]
   have h6:(nums (bk t++[s])).toList=(nums (bk t)).toList++[.int .i64 (s:Int)]:=by simp [nums]
   rw [h6,List.length_append]
   refine pW h5 (fun cur hc=>?_)
   rw [hb5] at hc
   injection hc with hc
   injection hc with _ hc
   cases hc
  ·simp only [if_neg e]
   refine aQ (h.own t hh) Nn (fun q hq hs=>?_)
   rcases hs with hs | hs
   ·exact h.sep t tt hh ht e q hq hs
   ·exact hty t hh q hq hs
 ·by_cases e:i=tt
  ·subst e
   rw [if_pos rfl] at hq
   injection hq with hq
   subst hq
   rw [if_neg (fun e2=>hne e2.symm)]
   exact hnew j hj (fun e2=>hne e2.symm)
  ·rw [if_neg e] at hq
   by_cases e2:j=tt
   ·subst e2
    rw [if_pos rfl]
    intro hc
    injection hc with hc
    subst hc
    exact hnew i hi e hq
   ·rw [if_neg e2]
    exact h.sep i j hi hj hne q hq
def iy (nx:Nat→Nat) (s t:Nat):List Nat:=(List.range s).filter (fun x=>nx x=t)
theorem GH (nx:Nat→Nat) (s:Nat):iy nx (s+1)=fun i=>if i=nx s then iy nx s (nx s)++[s] else iy nx s i:=by
 funext i
 unfold iy
 rw [List.range_succ,List.filter_append]
 by_cases e:i=nx s
 ·subst e;simp
 ·rw [if_neg e]
  have:decide (nx s=i)=false:=decide_eq_false (fun h=>e h.symm)
  simp [this]
theorem Ao (nx:Nat→Nat) (s t:Nat):(iy nx s t).length≤s:=by
 unfold iy
 have:=List.length_filter_le (fun x=>decide (nx x=t)) (List.range s)
 rw [List.length_range] at this
 exact this
end Go.Proofs.YtdlabakleldgaaaGreatDoor.L
namespace Go.Proofs
open Go.Shelf
def Tryz.GI:Go.Shelf.Ren:=⟨fun | 6=>114 | 15=>130 | 14=>129 | 28=>145 | 29=>146 | 20=>137 | 21=>138 | 22=>139 | 23=>140 | 24=>141 | 25=>142 | 26=>143 | 27=>144 | 46=>149 | 47=>150 | 48=>151 | 49=>152 | 50=>153 | 57=>155 | n=>n,fun | 22=>28 | 24=>3 | 25=>74 | 3=>3 | 39=>38 | 0=>0 | 53=>32 | 55=>122 | 4=>4 | 46=>202 | 45=>201 | 50=>149 | 5=>5 | 9=>9 | 66=>209 | 70=>213 | 76=>215 | 77=>216 | n=>n,fun | n=>n⟩
theorem Tryz.VY:Go.Proofs.SlLaysF.n6 Tryz.prog Tryz.GI:={
 mixed:=by kernel_rfl
 f6:=⟨Tryz.f114.name,by decide,Tryz.func114.trans (congrArg some (by kernel_rfl))⟩
 f14:=⟨Tryz.f129.name,by decide,Tryz.func129.trans (congrArg some (by kernel_rfl))⟩
 f15:=Tryz.func130.trans (congrArg some (by kernel_rfl))
 f20:=⟨Tryz.f137.name,by decide,Tryz.func137.trans (congrArg some (by kernel_rfl))⟩
 f21:=⟨Tryz.f138.name,by decide,Tryz.func138.trans (congrArg some (by kernel_rfl))⟩
 f22:=⟨Tryz.f139.name,by decide,Tryz.func139.trans (congrArg some (by kernel_rfl))⟩
 f23:=⟨Tryz.f140.name,by decide,Tryz.func140.trans (congrArg some (by kernel_rfl))⟩
 f24:=⟨Tryz.f141.name,by decide,Tryz.func141.trans (congrArg some (by kernel_rfl))⟩
 f25:=⟨Tryz.f142.name,by decide,Tryz.func142.trans (congrArg some (by kernel_rfl))⟩
 f26:=⟨Tryz.f143.name,by decide,Tryz.func143.trans (congrArg some (by kernel_rfl))⟩
 f27:=⟨Tryz.f144.name,by decide,Tryz.func144.trans (congrArg some (by kernel_rfl))⟩
 f28:=Tryz.func145.trans (congrArg some (by kernel_rfl))
 f29:=Tryz.func146.trans (congrArg some (by kernel_rfl))
 f46:=⟨Tryz.f149.name,by decide,Tryz.func149.trans (congrArg some (by kernel_rfl))⟩
 f47:=Tryz.func150.trans (congrArg some (by kernel_rfl))
 f48:=Tryz.func151.trans (congrArg some (by kernel_rfl))
 f49:=⟨Tryz.f152.name,by decide,Tryz.func152.trans (congrArg some (by kernel_rfl))⟩
 f50:=⟨Tryz.f153.name,by decide,Tryz.func153.trans (congrArg some (by kernel_rfl))⟩
 f57:=⟨Tryz.f155.name,by decide,Tryz.func155.trans (congrArg some (by kernel_rfl))⟩
 t0:=Tryz.underlying0
 a0:=Tryz.isAgg0
 z0:=Tryz.sizeOf0
 v0:=Tryz.zeroValue0
 t3:=Tryz.underlying3
 a3:=Tryz.isAgg3
 z3:=Tryz.sizeOf3
 v3:=Tryz.zeroValue3
 t4:=Tryz.underlying4
 a4:=Tryz.isAgg4
 z4:=Tryz.sizeOf4
 v4:=Tryz.zeroValue4
 t5:=Tryz.underlying5
 a5:=Tryz.isAgg5
 z5:=Tryz.sizeOf5
 v5:=Tryz.zeroValue5
 t9:=Tryz.underlying9
 a9:=Tryz.isAgg9
 z9:=Tryz.sizeOf9
 v9:=Tryz.zeroValue9
 t22:=Tryz.underlying28
 a22:=Tryz.isAgg28
 z22:=Tryz.sizeOf28
 v22:=Tryz.zeroValue28
 a24:=Tryz.isAgg3
 z24:=Tryz.sizeOf3
 t25:=Tryz.underlying74
 a25:=Tryz.isAgg74
 z25:=Tryz.sizeOf74
 v25:=Tryz.zeroValue74
 t39:=Tryz.underlying38
 a39:=Tryz.isAgg38
 z39:=Tryz.sizeOf38
 v39:=Tryz.zeroValue38
 t45:=Tryz.underlying201
 a45:=Tryz.isAgg201
 z45:=Tryz.sizeOf201
 v45:=Tryz.zeroValue201
 t46:=Tryz.underlying202
 a46:=Tryz.isAgg202
 z46:=Tryz.sizeOf202
 v46:=Tryz.zeroValue202
 t50:=Tryz.underlying149
 a50:=Tryz.isAgg149
 z50:=Tryz.sizeOf149
 v50:=Tryz.zeroValue149
 t53:=Tryz.underlying32
 a53:=Tryz.isAgg32
 z53:=Tryz.sizeOf32
 v53:=Tryz.zeroValue32
 t55:=Tryz.underlying122
 a55:=Tryz.isAgg122
 z55:=Tryz.sizeOf122
 v55:=Tryz.zeroValue122
 t66:=Tryz.underlying209
 a66:=Tryz.isAgg209
 z66:=Tryz.sizeOf209
 v66:=Tryz.zeroValue209
 t70:=Tryz.underlying213
 a70:=Tryz.isAgg213
 z70:=Tryz.sizeOf213
 v70:=Tryz.zeroValue213
 t76:=Tryz.underlying215
 a76:=Tryz.isAgg215
 z76:=Tryz.sizeOf215
 v76:=Tryz.zeroValue215
 t77:=Tryz.underlying216
 a77:=Tryz.isAgg216
 z77:=Tryz.sizeOf216
 v77:=Tryz.zeroValue216}
end Go.Proofs
namespace Go.Proofs.YtdlabakleldgaaaGreatDoor.L
open Go.RowKit Go.Maps
def pX (x y:Nat):Int:=if x < y then -1 else if y < x then 1 else 0
theorem qZ (x:Nat) (w:World):Calls Tryz.prog 131 #[.int .u32 (x:Int)] w fun e w'=>e=.returned (.bool false)∧w'=w:=by
 go_enter Tryz.func131,Tryz.ntmps131
 go_wp2_with fail
 go_ret
 exact⟨by simp,rfl⟩
theorem Aq (x y:Nat) (w:World):Calls Tryz.prog 116 #[.int .u32 (x:Int),.int .u32 (y:Int)] w fun e w'=>e=.returned (.int .i64 (pX x y))∧w'=w:=by
 by_cases h1:x < y
 ·have e:pX x y=-1:=by unfold pX;rw [if_pos h1]
  rw [e]
  have t1:(x:Int) <(y:Int):=by omega
  go_enter Tryz.func116,Tryz.ntmps116
  go_wp2_with (go_at_call 131;refine Calls.mono (qZ _ _) ?_;rintro e w1 ⟨rfl,rfl⟩)
  go_ret
  exact⟨rfl,rfl⟩
 ·have t1:decide ((x:Int) <(y:Int))=false:=decide_eq_false (by omega)
  by_cases h2:y < x
  ·have e:pX x y=1:=by unfold pX;rw [if_neg h1,if_pos h2]
   rw [e]
   have t2:(y:Int) <(x:Int):=by omega
   go_enter Tryz.func116,Tryz.ntmps116
   go_wp2_with (go_at_call 131;refine Calls.mono (qZ _ _) ?_;rintro e w1 ⟨rfl,rfl⟩)
   go_ret
   exact⟨rfl,rfl⟩
  ·have e:pX x y=0:=by unfold pX;rw [if_neg h1,if_neg h2]
   rw [e]
   have t2:decide ((y:Int) <(x:Int))=false:=decide_eq_false (by omega)
   go_enter Tryz.func116,Tryz.ntmps116
   go_wp2_with (go_at_call 131;refine Calls.mono (qZ _ _) ?_;rintro e w1 ⟨rfl,rfl⟩)
   go_ret
   exact⟨rfl,rfl⟩
theorem GJ (s t x y pa bo oo no co:Nat) (w:World) (hs:s < no) (ht:t < no) (hn:no≤1000000) (h1:w.cell? ⟨pa,1,none⟩=some (.slice (some ⟨bo,oo,none⟩) no co)) (h2:w.cell? ⟨bo,oo+s,none⟩=some (.int .u32 (x:Int))) (h3:w.cell? ⟨bo,oo+t,none⟩=some (.int .u32 (y:Int))):
  Calls Tryz.prog 115 #[.int .i64 (s:Int),.int .i64 (t:Int),.pointer (some ⟨pa,0,none⟩)] w fun e w'=>e=.returned (.int .i64 (pX x y))∧∃q,w'=w.drewN q:=by
 have i1:(s:Int) <(no:Int):=by omega
 have i2:(t:Int) <(no:Int):=by omega
 have l1:=World.block_lt_of_cell? w _ h1
 have l2:=World.block_lt_of_cell? w _ h2
 obtain⟨r,hr⟩:∃r,r=pX x y:=⟨_,rfl⟩
 have HC:Hid (∀W,Calls Tryz.prog 116 #[.int .u32 (x:Int),.int .u32 (y:Int)] W fun e w'=>e=.returned (.int .i64 r)∧w'=W):=fun W=>by rw [hr];exact Aq x y W
 rw [←hr]
 clear hr
 go_enter Tryz.func115,Tryz.ntmps115
 go_wp2_with fail
 go_quiet ((go_at_call 116;exact Calls.quiet_of_same (HC.out _)))
 go_wp2_with fail
 go_ret
 exact⟨rfl,_,rfl⟩
end Go.Proofs.YtdlabakleldgaaaGreatDoor.L
namespace Go.Proofs.YtdlabakleldgaaaGreatDoor.L
open Go.RowKit Go.Maps Go.Shelf
theorem EO {α:Type} (d:Array α) (n:Nat) (h:d.size=n):d.extract 0 n=d:=by subst h;simp
def Ar (n:Nat) (x:Fin n):Value:=.int .i64 (x.val:Int)
theorem yE {n:Nat} (O:Nat→Nat) (x y:Fin n):ltOf (fun x y:Fin n=>pX (O x.val) (O y.val)) x y=decide (O x.val < O y.val):=by
 unfold ltOf pX
 by_cases h1:O x.val < O y.val
 ·simp [h1]
 ·by_cases h2:O y.val < O x.val <;> simp [h1,h2]
theorem Oa {n:Nat} (O:Nat→Nat):Sort.SWO (ltOf (fun x y:Fin n=>pX (O x.val) (O y.val))):=by
 refine⟨fun x=>?_,fun x y z h1 h2=>?_,fun x y z h1 h2=>?_⟩
 ·rw [yE];simp
 ·rw [yE] at *;simp at *;omega
 ·rw [yE] at *;simp at *;omega
theorem KL {α:Type} [Inhabited α] (enc:α→Value) (w:World) (blk m:Nat) (dk:Array α) (os:Array Obj) (b:Nat) (hb:b < w.heap.size) (hne:b≠blk):(sortWorld enc w blk 0 m dk os).heap[b]?=w.heap[b]?:=by
 unfold sortWorld
 rw [Sort.heap_grow_old _ _ (by simp [Sort.putRow,Sort.mapBlock,Sort.ahead];exact hb)]
 simp [Sort.putRow,Sort.mapBlock,Sort.ahead,Array.getElem?_modify]
 intro e
 exact absurd e.symm hne
theorem Sr {n:Nat} [Inhabited (Fin n)] (w:World) (blk m:Nat) (dk:Array (Fin n)) (os:Array Obj) (hd:dk.size=n) (h:Nb w blk (List.range n)):Nb (sortWorld (Ar n) w blk 0 m dk os) blk (dk.toList.map (·.val)):=by
 have hl:=h.lt
 unfold Nb at h ⊢
 unfold sortWorld
 rw [Sort.heap_grow_old _ _ (by simp [Sort.putRow,Sort.mapBlock,Sort.ahead];exact hl)]
 simp only [Sort.putRow,Sort.mapBlock,Sort.ahead,Array.getElem?_modify,if_true,h,Option.map_some,Sort.onCells]
 congr 2
 apply Array.ext_getElem?
 intro j
 simp only [Sort.putCells,Array.getElem?_mapIdx]
 rw [eY,eY]
 by_cases hj:j < n
 ·rw [List.getElem?_range hj]
  simp only [Option.map_some]
  rw [if_pos (by omega),List.getElem?_map,Array.getElem?_toList,Array.getElem?_eq_getElem (by omega)]
  simp [Ar,getElem!_pos,hd,hj]
 ·rw [List.getElem?_eq_none (by simp;omega),List.getElem?_eq_none (by simp;omega)]
  rfl
theorem Ob {n:Nat} [Inhabited (Fin n)] (w:World) (blk m:Nat) (dk:Array (Fin n)) (os:Array Obj):Only (fun b=>b=blk) w (sortWorld (Ar n) w blk 0 m dk os):=
 ⟨rfl,rfl,rfl,by simp [sortWorld,Sort.putRow,Sort.mapBlock,Sort.ahead],fun g hg hS=>KL _ w blk m dk os g hg hS⟩
theorem KM (n pa bo oo co blk:Nat) (O:Nat→Nat) (w:World) (h0:0 < n) (hn:n≤100000) (hN:Nb w blk (List.range n)) (h1:w.cell? ⟨pa,1,none⟩=some (.slice (some ⟨bo,oo,none⟩) n co)) (h2:∀s,s < n→w.cell? ⟨bo,oo+s,none⟩=some (.int .u32 (O s:Int))) (hp:pa≠blk) (hb:bo≠blk):
  Calls Tryz.prog 114 #[.slice (some ⟨blk,0,none⟩) n n,.func (.func 115) #[] #[.pointer (some ⟨pa,0,none⟩)]] w fun e w'=>e=.returned (.tuple #[])∧∃L:List Nat,L.Perm (List.range n)∧(∀i j x y:Nat,i < j→L[i]?=some x→L[j]?=some y→O x≤O y)∧Nb w' blk L∧Only (fun b=>b=blk) w w':=by
 haveI:Inhabited (Fin n):=⟨⟨0,h0⟩⟩
 have eg:∀args w,(callFunc 115 args).run Tryz.prog w=.ok (.enter 115 args) w:=enters_of Tryz.func115 (by kernel_rfl) rfl
 have l1:=World.block_lt_of_cell? w _ h1
 have l2:=World.block_lt_of_cell? w _ (h2 0 h0)
 obtain⟨d,hd⟩:∃d:Array (Fin n),d=Array.ofFn (fun i:Fin n=>i):=⟨_,rfl⟩
 have hds:d.size=n:=by rw [hd];simp
 have hcmp:CmpReads Tryz.prog 115 #[.pointer (some ⟨pa,0,none⟩)] (Ar n) (fun x y:Fin n=>pX (O x.val) (O y.val)) blk 0 d.size w:=fun m os dk hs x y=>by
  have k:∀b j v,b < w.heap.size→b≠blk→w.cell? ⟨b,j,none⟩=some v→(sortWorld (Ar n) w blk 0 m dk os).cell? ⟨b,j,none⟩=some v:=fun b j v hb hne hv=>(World.cell?_of_block (a:=⟨b,j,none⟩) (KL _ w blk m dk os b hb hne)).trans hv
  exact GJ x.val y.val (O x.val) (O y.val) pa bo oo n co _ x.isLt y.isLt (by omega) (k _ _ _ l1 hp h1) (k _ _ _ l2 hb (h2 _ x.isLt)) (k _ _ _ l2 hb (h2 _ y.isLt))
 have hH:Sort.Holds (Ar n) w blk 0 d:=fun j hj=>by
  have hj':j < n:=by omega
  refine⟨?_,hN.fz _⟩
  rw [Nat.zero_add]
  refine (hN.cell (List.getElem?_range hj')).trans ?_
  rw [hd,getElem!_pos _ j (by simp;exact hj')]
  simp [Ar]
 have hcon:=Any.slices_SortFunc Tryz.VY (Ar n) (fun _=>rfl) (fun x y:Fin n=>pX (O x.val) (O y.val)) (Oa O) 115 #[.pointer (some ⟨pa,0,none⟩)] blk 0 n d w eg hcmp.lays hH hN.lt (by omega)
 change Calls Tryz.prog 114 _ _ _ at hcon
 rw [hds] at hcon
 refine hcon.mono ?_
 rintro e w' ⟨he,d',m,os,hperm,hsort,rfl⟩
 obtain⟨p1,_,p3⟩:=hperm
 have hds':d'.size=n:=by rw [p1,hds]
 refine⟨he,d'.toList.map (·.val),?_,?_,Sr w blk m d' os hds' hN,Ob w blk m d' os⟩
 ·have e1:d'.extract 0 n=d':=EO d' n hds'
  have e2:d.extract 0 n=d:=EO d n hds
  rw [e1,e2] at p3
  have p4:=p3.map (fun x:Fin n=>x.val)
  have e3:d.toList.map (fun x:Fin n=>x.val)=List.range n:=by
   rw [hd]
   apply List.ext_getElem?
   intro i
   by_cases hi:i < n
   ·rw [List.getElem?_range hi];simp [hi]
   ·rw [List.getElem?_eq_none (by simp;omega),List.getElem?_eq_none (by simp;omega)]
  rw [e3] at p4
  exact p4
 ·intro i j x y hij hx hy
  rw [List.getElem?_map] at hx hy
  have hjl:j < d'.size:=by
   cases hh:d'.toList[j]? with
   | none=>rw [hh] at hy;cases hy
   | some z=>have:=(List.getElem?_eq_some_iff.1 hh).1;simpa using this
  have hil:i < d'.size:=by omega
  have hs:=hsort i j (Nat.zero_le _) hij (by omega)
  rw [yE] at hs
  rw [getElem!_pos _ j hjl,getElem!_pos _ i hil] at hs
  rw [Array.getElem?_toList,Array.getElem?_eq_getElem hil] at hx
  rw [Array.getElem?_toList,Array.getElem?_eq_getElem hjl] at hy
  injection hx with hx
  injection hy with hy
  subst hx
  subst hy
  simpa using hs
end Go.Proofs.YtdlabakleldgaaaGreatDoor.L
