/- LOg LWb LShelf LCm LSo -/
import Derived.Test.YtchaoonefiamdaaGreatDoorZ30
import Derived.Deep.OwnRows
import Derived.Shelf.SlSortCmp.Whole1
import Derived.Shelf.SlGeneric
import Derived.Ground.SlsfProg
import Derived.Test.YtchaoonefiamdaaGreatDoorProg
import Derived.Test.YtchaoonefiamdaaGreatDoorZ29
namespace Go.Proofs.YtchaoonefiamdaaGreatDoor.L
open Go.RowKit Go.Maps
set_option linter.unusedVariables false
set_option linter.unusedSimpArgs false
theorem info3b:(Tryz.prog.info? 3).map (fun i=>(i.zero,i.size,i.bytes))=some (some (.int .i64 0),1,8):=by kernel_rfl
theorem made_i64 (n:Nat):madeCells #[.int .i64 0] n=nums (List.replicate n 0):=by
  apply Array.ext
  · simp [nums,size_madeCells]
  · intro i h1 h2
    simp [madeCells,nums,Nat.mod_one]
def upto (n k:Nat):List Nat:=List.range k++List.replicate (n - k) 0
theorem upto_len {n k:Nat} (h:k≤n):(upto n k).length=n:=by simp [upto];omega
theorem upto_zero (n:Nat):upto n 0=List.replicate n 0:=by simp [upto]
theorem upto_full (n:Nat):upto n n=List.range n:=by simp [upto]
theorem upto_set {n k:Nat} (h:k < n):(upto n k).set k k=upto n (k+1):=by
  unfold upto
  rw [List.range_succ,List.set_append_right _ _ (by simp),List.length_range,Nat.sub_self,show n - k=(n - (k+1))+1 by omega,List.replicate_succ,List.set_cons_zero]
  simp
theorem rng_at {n p s:Nat} (hp:(List.range n)[p]?=some s):s=p∧p < n:=by
  have hl:=(List.getElem?_eq_some_iff.1 hp).1
  rw [List.length_range] at hl
  rw [List.getElem?_range hl] at hp
  injection hp with hp
  exact ⟨hp.symm,hl⟩
theorem rep_at {n s g:Nat} (h:(List.replicate n 0)[s]?=some g):g=0∧s < n:=by
  have hl:=(List.getElem?_eq_some_iff.1 h).1
  rw [List.length_replicate] at hl
  rw [List.getElem?_replicate,if_pos hl] at h
  injection h with h
  exact ⟨h.symm,hl⟩
theorem one_Pt {n:Nat} (h:0 < n):Hm.Pt n (List.range n) (List.range n) (List.replicate n 0) [(0,n,0)] (fun _=>False):=by
  refine ⟨by simp,by simp,by simp,fun p s hp=>?_,fun s p hp=>?_,fun s g hg=>?_,fun g f t d hg=>?_⟩
  · obtain ⟨rfl,hl⟩:=rng_at hp
    exact ⟨hl,hp⟩
  · obtain ⟨rfl,hl⟩:=rng_at hp
    exact hp
  · obtain ⟨rfl,hl⟩:=rep_at hg
    exact ⟨0,n,0,s,rfl,List.getElem?_range hl,Nat.zero_le _,hl⟩
  · have hl:=(List.getElem?_eq_some_iff.1 hg).1
    obtain rfl:g=0:=by simpa using hl
    simp at hg
    obtain ⟨rfl,rfl,rfl⟩:=hg
    refine ⟨h,Nat.le_refl _,by omega,fun p s h1 h2 hp=>⟨?_,by constructor <;> intro hh;omega;exact hh.elim⟩⟩
    obtain ⟨rfl,hl⟩:=rng_at hp
    rw [List.getElem?_replicate,if_pos hl]
theorem four (w:World) (a b c x:Obj):(((((w.alloc a).alloc b).alloc c).alloc x).drew.heap[w.heap.size]?=some a∧((((w.alloc a).alloc b).alloc c).alloc x).drew.heap[w.heap.size+1]?=some b∧((((w.alloc a).alloc b).alloc c).alloc x).drew.heap[w.heap.size+1+1]?=some c∧((((w.alloc a).alloc b).alloc c).alloc x).drew.heap[w.heap.size+1+1+1]?=some x):=by
  have s1:(w.alloc a).heap.size=w.heap.size+1:=by simp
  have s2:((w.alloc a).alloc b).heap.size=w.heap.size+1+1:=by simp
  have s3:(((w.alloc a).alloc b).alloc c).heap.size=w.heap.size+1+1+1:=by simp
  have h1:=heap_alloc_new w a
  have h2:=heap_alloc_new (w.alloc a) b
  have h3:=heap_alloc_new ((w.alloc a).alloc b) c
  have h4:=heap_alloc_new (((w.alloc a).alloc b).alloc c) x
  rw [s1] at h2
  rw [s2] at h3
  rw [s3] at h4
  refine ⟨?_,?_,?_,h4⟩
  · exact (Below.heap_alloc _ _ _ (by omega)).trans ((Below.heap_alloc _ _ _ (by omega)).trans ((Below.heap_alloc _ _ _ (by omega)).trans h1))
  · exact (Below.heap_alloc _ _ _ (by omega)).trans ((Below.heap_alloc _ _ _ (by omega)).trans h2)
  · exact (Below.heap_alloc _ _ _ (by omega)).trans h3
set_option maxRecDepth 100000 in
set_option maxHeartbeats 4000000 in
theorem oneGroup_any (n:Nat) (w:World) (h0:0 < n) (hn:n≤100000):Calls Tryz.prog 69 #[.int .i64 (n:Int)] w fun e w'=>∃ gb rb ab ob vL,e=.returned (.pointer (some ⟨gb,0,none⟩))∧Ms w' gb rb ab ob n w.heap.size w'.heap.size vL (List.range n) (List.range n) (List.replicate n 0) [(0,n,0)]∧Only (fun _=>False) w w':=by
  have hmk:=fun (w:World)=>run_make_row' (P:=Tryz.prog) 23 3 (.int .i64 0) 8 Tryz.underlying23 info3b rfl .i64 .i64 n (by omega) (by omega) w
  go_enter Tryz.func69,Tryz.ntmps69
  go_wp2_with fail
  go_cut [3] from 5 to 12 (fun v wr=>∃ (gb rb ab ob:Nat) (W:World),W=wr∧v=.pointer (some ⟨gb,0,none⟩)∧Gb W gb rb ab ob n (.slice none 0 0)∧Nb W rb (List.replicate n 0)∧Nb W ab (List.replicate n 0)∧Nb W ob (List.replicate n 0)∧rb≠ab∧rb≠ob∧ab≠ob∧(w.heap.size≤gb∧w.heap.size≤rb∧w.heap.size≤ab∧w.heap.size≤ob)∧Only (fun _=>False) w W)
  case first =>
    go_region
    all_goals
      go_wp2_with fail
      go_meet
      case rel =>
        rw [made_i64]
        refine ⟨_,_,_,_,_,rfl,rfl,(four w _ _ _ _).2.2.2,?_,?_,?_,by omega,by omega,by omega,by omega,((((((Only.refl _ _).alloc _).alloc _).alloc _).alloc _).drew)⟩
        · first | exact (four w _ _ _ _).1 | exact (four w _ _ _ _).2.1 | exact (four w _ _ _ _).2.2.1
        · first | exact (four w _ _ _ _).1 | exact (four w _ _ _ _).2.1 | exact (four w _ _ _ _).2.2.1
        · first | exact (four w _ _ _ _).1 | exact (four w _ _ _ _).2.1 | exact (four w _ _ _ _).2.2.1
  case rest =>
    obtain ⟨gb,rb,ab,ob,W,hW,rfl,hG,hr,ha,hob,n1,n2,n3,hlo,ho⟩:=hcut
    subst hW
    have HW:Hid (Gb W gb rb ab ob n (.slice none 0 0)∧Nb W rb (List.replicate n 0)∧Nb W ab (List.replicate n 0)∧Nb W ob (List.replicate n 0)∧Only (fun _=>False) w W):=⟨hG,hr,ha,hob,ho⟩
    clear hG hr ha hob ho hmk
    go_wp2_with fail
    go_loopg [14] n (fun gh v wr=>∃ (k:Nat) (Y:World),Y=wr∧gh=n - k∧k≤n∧v=.int .i64 (k:Int)∧Gb Y gb rb ab ob n (.slice none 0 0)∧Nb Y rb (upto n k)∧Nb Y ab (upto n k)∧Nb Y ob (List.replicate n 0)∧Only (fun b=>b=rb∨b=ab) W Y)
    case atStart=>exact ⟨0,_,rfl,rfl,Nat.zero_le _,rfl,HW.out.1,by rw [upto_zero];exact HW.out.2.1,by rw [upto_zero];exact HW.out.2.2.1,HW.out.2.2.2.1,Only.refl _ _⟩
    case round =>
      obtain ⟨k,Y,hY,rfl,hk,rfl,hG,hr,ha,hob,ho⟩:=hrel
      subst hY
      have HY:Hid (Gb Y gb rb ab ob n (.slice none 0 0)∧Nb Y rb (upto n k)∧Nb Y ab (upto n k)∧Nb Y ob (List.replicate n 0)∧Only (fun b=>b=rb∨b=ab) W Y):=⟨hG,hr,ha,hob,ho⟩
      have z0:Y.cell? ⟨gb,0,none⟩=some (.slice (some ⟨rb,0,none⟩) n n):=cell_blk hG
      have z1:Y.cell? ⟨gb,1,none⟩=some (.slice (some ⟨ab,0,none⟩) n n):=cell_blk hG
      have z3:Y.cell? ⟨gb,3,none⟩=some (.slice none 0 0):=cell_blk hG
      have fg:∀ x,Y.frozen? ⟨gb,x,none⟩=false:=fun x=>fz_blk hG x
      have lgb:=hG.lt
      have hgr:=hG.ne hr
      have hga:=hG.ne ha
      by_cases hlt:k < n
      · have t1:(k:Int) < (n:Int):=by omega
        obtain ⟨x1,hx1⟩:∃ x1,(upto n k)[k]?=some x1:=⟨_,List.getElem?_eq_getElem (by rw [upto_len hk];exact hlt)⟩
        have c1:=hr.cell hx1
        have c2:=ha.cell hx1
        have c3:(Y.setCell ⟨rb,k,none⟩ (.int .i64 (k:Int))).cell? ⟨ab,k,none⟩=some (.int .i64 (x1:Int)):=(ha.off (fun e=>n1 e.symm) _ _).cell hx1
        have f1:∀ x,Y.frozen? ⟨rb,x,none⟩=false:=fun x=>hr.fz x
        have f2:∀ x,(Y.setCell ⟨rb,k,none⟩ (.int .i64 (k:Int))).frozen? ⟨ab,x,none⟩=false:=fun x=>(ha.off (fun e=>n1 e.symm) _ _).fz x
        have lrb:=hr.lt
        have lab:=ha.lt
        clear hG hr ha hob ho hx1
        go_wp2_with fail
        go_region
        all_goals
          go_wp2_with fail
          go_roundg (n - (k+1))
          case measure=>omega
          case rel =>
            refine ⟨k+1,_,rfl,rfl,by omega,by go_num,?_,?_,?_,?_,?_⟩
            · exact (HY.out.1.off hgr _ _).off hga _ _
            · have:=(HY.out.2.1.set k k).off (c:=ab) n1 k (.int .i64 (k:Int))
              rw [upto_set hlt] at this
              exact this
            · have:=(HY.out.2.2.1.off (c:=rb) (fun e=>n1 e.symm) k (.int .i64 (k:Int))).set k k
              rw [upto_set hlt] at this
              exact this
            · exact (HY.out.2.2.2.1.off (fun e=>n2 e.symm) _ _).off (fun e=>n3 e.symm) _ _
            · exact ((HY.out.2.2.2.2.setCell (p:=⟨rb,k,none⟩) (Or.inl rfl) _).setCell (p:=⟨ab,k,none⟩) (Or.inr rfl) _).drew
      · have t2:decide ((k:Int) < (n:Int))=false:=decide_eq_false (by omega)
        have hkn:k=n:=by omega
        subst hkn
        clear hG hr ha hob ho
        go_wp2_with fail
        go_ret
        obtain ⟨Z,hZ⟩:∃ Z,Z=Y.setCell ⟨gb,3,none⟩ (.slice (some ⟨Y.heap.size,0,none⟩) 1 1):=⟨_,rfl⟩
        have hZs:Z.heap.size=Y.heap.size:=by rw [hZ];simp [World.setCell]
        have hG1:Gb Z gb rb ab ob k (.slice (some ⟨Y.heap.size,0,none⟩) 1 1):=by rw [hZ];exact heap_setCell_at HY.out.1 _
        have hgo:=HY.out.1.ne HY.out.2.2.2.1
        have hr1:Nb Z rb (upto k k):=by rw [hZ];exact HY.out.2.1.off (fun e=>hgr e.symm) _ _
        have ha1:Nb Z ab (upto k k):=by rw [hZ];exact HY.out.2.2.1.off (fun e=>hga e.symm) _ _
        have ho1:Nb Z ob (List.replicate k 0):=by rw [hZ];exact HY.out.2.2.2.1.off (fun e=>hgo e.symm) _ _
        have hOZ:Only (fun b=>b=gb) Y Z:=by rw [hZ];exact (Only.refl (fun b=>b=gb) Y).setCell (p:=⟨gb,3,none⟩) rfl _
        have b1:=hG1.lt
        have b2:=hr1.lt
        have b3:=ha1.lt
        have b4:=ho1.lt
        rw [upto_full] at hr1 ha1
        have hwY:w.heap.size≤Y.heap.size:=Nat.le_trans HW.out.2.2.2.2.size HY.out.2.2.2.2.size
        rw [← hZ]
        have hal:=(Only.refl (fun _=>False) Z).alloc (.cells #[.int .i64 0,.int .i64 (k:Int),.int .i64 0] 141)
        have hsz:(Z.alloc (.cells #[.int .i64 0,.int .i64 (k:Int),.int .i64 0] 141)).heap.size=Z.heap.size+1:=by simp
        refine ⟨gb,rb,ab,ob,.slice (some ⟨Y.heap.size,0,none⟩) 1 1,rfl,⟨hG1.only hal (fun h=>h),hr1.only hal (fun h=>h),ha1.only hal (fun h=>h),ho1.only hal (fun h=>h),?_,n1,n2,n3,hlo,by omega,by simp,by simp;omega,hn⟩,?_⟩
        · refine ⟨rfl,Or.inr ⟨Y.heap.size,1,#[.int .i64 0,.int .i64 (k:Int),.int .i64 0],rfl,hwY,?_,Nat.le_refl _,by unfold maxLen;omega,rfl,rfl⟩⟩
          rw [← hZs]
          exact heap_alloc_new Z _
        · have h1:Only (fun b=>b=rb∨b=ab∨b=gb) w (Z.alloc (.cells #[.int .i64 0,.int .i64 (k:Int),.int .i64 0] 141)):=(((HW.out.2.2.2.2.mono (fun _ h=>h.elim)).trans (HY.out.2.2.2.2.mono (fun b h=>h.elim Or.inl (fun h=>Or.inr (Or.inl h))))).trans (hOZ.mono (fun b h=>Or.inr (Or.inr h)))).alloc _
          exact h1.old (fun g hg=>Or.inl (by omega))
end Go.Proofs.YtchaoonefiamdaaGreatDoor.L
namespace Go.Proofs.YtchaoonefiamdaaGreatDoor.L
open Go.RowKit Go.Maps
set_option linter.unusedVariables false
set_option linter.unusedSimpArgs false
theorem own_own {w:World} {base e size n q:Nat} {v:Value} {xs:List Value} (h:w.ownsRow base e size v n xs) (hq:v.ownBlock=some q):base≤q∧∃ cur,w.heap[q]?=some (.cells cur e (0,0)):=by
  obtain ⟨hl,⟨hv,h0⟩ | ⟨g,cap,cur,hv,h1,h2,_⟩⟩:=h
  · rw [hv] at hq;cases hq
  · rw [hv] at hq
    injection hq with hq
    subst hq
    exact ⟨h1,cur,h2⟩
theorem own_stay {S:Nat→Prop} {w w':World} {base e size n:Nat} {v:Value} {xs:List Value} (h:w.ownsRow base e size v n xs) (ho:Only S w w') (hS:∀ q,v.ownBlock=some q→¬ S q):w'.ownsRow base e size v n xs:=by
  obtain ⟨hl,h | ⟨g,cap,cur,hv,h1,h2,h3⟩⟩:=h
  · exact ⟨hl,Or.inl h⟩
  · exact ⟨hl,Or.inr ⟨g,cap,cur,hv,h1,(ho.block g (Array.getElem?_eq_some_iff.1 h2).1 (hS g (by rw [hv];rfl))).trans h2,h3⟩⟩
def rowOf (n:Nat) (vs:Nat→Value):Array Value:=((List.range n).map vs).toArray
theorem rowOf_at {n i:Nat} (vs:Nat→Value) (h:i < n):(rowOf n vs)[i]?=some (vs i):=by
  unfold rowOf
  rw [List.getElem?_toArray,List.getElem?_map,List.getElem?_range h]
  rfl
theorem rowOf_size (n:Nat) (vs:Nat→Value):(rowOf n vs).size=n:=by simp [rowOf]
theorem rowOf_set {n i:Nat} (vs:Nat→Value) (v:Value):(rowOf n vs).setIfInBounds i v=rowOf n (fun j=>if j=i then v else vs j):=by
  apply Array.ext_getElem?
  intro j
  rw [Array.getElem?_setIfInBounds,rowOf_size]
  by_cases hj:j < n
  · rw [rowOf_at _ hj,rowOf_at _ hj]
    by_cases e:i=j
    · subst e;simp [hj]
    · rw [if_neg e,if_neg (fun h=>e h.symm)]
  · have e1:(rowOf n vs)[j]?=none:=Array.getElem?_eq_none (by rw [rowOf_size];omega)
    have e2:(rowOf n (fun j=>if j=i then v else vs j))[j]?=none:=Array.getElem?_eq_none (by rw [rowOf_size];omega)
    rw [e1,e2]
    split
    · rename_i e;subst e;rw [if_neg hj]
    · rfl
structure Bw (W:World) (base n bc:Nat) (bk:Nat→List Nat) (vs:Nat→Value):Prop where
  blk:W.heap[bc]?=some (.cells (rowOf n vs) 23 (0,0))
  own:∀ t,t < n→W.ownsRow base 3 1 (vs t) (bk t).length (nums (bk t)).toList
  sep:∀ i j,i < n→j < n→i≠j→∀ g,(vs i).ownBlock=some g→(vs j).ownBlock≠some g
theorem Bw.keep {S:Nat→Prop} {W W':World} {base n bc:Nat} {bk:Nat→List Nat} {vs:Nat→Value} (h:Bw W base n bc bk vs) (ho:Only S W W') (h1:∀ b,S b→b≠bc∧b < base):Bw W' base n bc bk vs :=
  ⟨(ho.block bc (Array.getElem?_eq_some_iff.1 h.blk).1 (fun hs=>(h1 _ hs).1 rfl)).trans h.blk,fun t ht=>own_stay (h.own t ht) ho (fun q hq hs=>by have:=(own_own (h.own t ht) hq).1;have:=(h1 _ hs).2;omega),h.sep⟩
theorem Bw.start {W:World} {base n bc:Nat} (h:W.heap[bc]?=some (.cells (rowOf n (fun _=>.slice none 0 0)) 23 (0,0))):Bw W base n bc (fun _=>[]) (fun _=>.slice none 0 0) :=
  ⟨h,fun t ht=>⟨rfl,Or.inl ⟨rfl,rfl⟩⟩,fun i j _ _ _ g hg=>by cases hg⟩
theorem Bw.step {Y w5:World} {base n bc tt s g cap H:Nat} {bk:Nat→List Nat} {vs:Nat→Value} (h:Bw Y base n bc bk vs) (ht:tt < n) (hO:Only (fun b=>(vs tt).ownBlock=some b) Y w5) (h5:w5.ownsRow base 3 1 (.slice (some ⟨g,0,none⟩) ((bk tt).length+1) cap) ((bk tt).length+1) ((nums (bk tt)).toList++[.int .i64 (s:Int)])) (hat:(vs tt).ownBlock=some g∨g=H) (hH:Y.heap.size≤H) :
    Bw (w5.setCell ⟨bc,tt,none⟩ (.slice (some ⟨g,0,none⟩) ((bk tt).length+1) cap)) base n bc (fun i=>if i=tt then bk tt++[s] else bk i) (fun i=>if i=tt then .slice (some ⟨g,0,none⟩) ((bk tt).length+1) cap else vs i)∧Only (fun b=>(vs tt).ownBlock=some b∨b=bc) Y (w5.setCell ⟨bc,tt,none⟩ (.slice (some ⟨g,0,none⟩) ((bk tt).length+1) cap)):=by
  have hty:∀ i,i < n→∀ q,(vs i).ownBlock=some q→q≠bc:=fun i hi q hq e=>by
    obtain ⟨_,cur,hc⟩:=own_own (h.own i hi) hq
    rw [e,h.blk] at hc
    injection hc with hc
    injection hc with _ hc
    cases hc
  have hb5:w5.heap[bc]?=some (.cells (rowOf n vs) 23 (0,0)):=(hO.block bc (Array.getElem?_eq_some_iff.1 h.blk).1 (fun hs=>hty tt ht bc hs rfl)).trans h.blk
  have hO6:Only (fun b=>(vs tt).ownBlock=some b∨b=bc) Y (w5.setCell ⟨bc,tt,none⟩ (.slice (some ⟨g,0,none⟩) ((bk tt).length+1) cap)):=(hO.mono (S':=fun b=>(vs tt).ownBlock=some b∨b=bc) (fun b hb=>Or.inl hb)).setCell (p:=⟨bc,tt,none⟩) (Or.inr rfl) _
  have hlt:∀ j,j < n→∀ q,(vs j).ownBlock=some q→q < Y.heap.size:=fun j hj q hq=>by
    obtain ⟨_,cur,hc⟩:=own_own (h.own j hj) hq
    exact (Array.getElem?_eq_some_iff.1 hc).1
  have hnew:∀ j,j < n→j≠tt→(vs j).ownBlock≠some g:=fun j hj hne hq=>by
    rcases hat with e | e
    · exact h.sep tt j ht hj (fun e2=>hne e2.symm) g e hq
    · have:=hlt j hj g hq;omega
  refine ⟨⟨?_,fun t hh=>?_,fun i j hi hj hne q hq=>?_⟩,hO6⟩
  · rw [heap_setCell_at hb5,rowOf_set]
  · by_cases e:t=tt
    · subst e
      simp only [if_true]
      have h6:(nums (bk t++[s])).toList=(nums (bk t)).toList++[.int .i64 (s:Int)]:=by simp [nums]
      rw [h6,List.length_append]
      refine own_off h5 (fun cur hc=>?_)
      rw [hb5] at hc
      injection hc with hc
      injection hc with _ hc
      cases hc
    · simp only [if_neg e]
      refine own_stay (h.own t hh) hO6 (fun q hq hs=>?_)
      rcases hs with hs | hs
      · exact h.sep t tt hh ht e q hq hs
      · exact hty t hh q hq hs
  · by_cases e:i=tt
    · subst e
      rw [if_pos rfl] at hq
      injection hq with hq
      subst hq
      rw [if_neg (fun e2=>hne e2.symm)]
      exact hnew j hj (fun e2=>hne e2.symm)
    · rw [if_neg e] at hq
      by_cases e2:j=tt
      · subst e2
        rw [if_pos rfl]
        intro hc
        injection hc with hc
        subst hc
        exact hnew i hi e hq
      · rw [if_neg e2]
        exact h.sep i j hi hj hne q hq
def bkTo (nx:Nat→Nat) (s t:Nat):List Nat:=(List.range s).filter (fun x=>nx x=t)
theorem bkTo_succ (nx:Nat→Nat) (s:Nat):bkTo nx (s+1)=fun i=>if i=nx s then bkTo nx s (nx s)++[s] else bkTo nx s i:=by
  funext i
  unfold bkTo
  rw [List.range_succ,List.filter_append]
  by_cases e:i=nx s
  · subst e;simp
  · rw [if_neg e]
    have:decide (nx s=i)=false:=decide_eq_false (fun h=>e h.symm)
    simp [this]
theorem bkTo_len (nx:Nat→Nat) (s t:Nat):(bkTo nx s t).length≤s:=by
  unfold bkTo
  have:=List.length_filter_le (fun x=>decide (nx x=t)) (List.range s)
  rw [List.length_range] at this
  exact this
end Go.Proofs.YtchaoonefiamdaaGreatDoor.L
namespace Go.Proofs
open Go.Shelf
def Tryz.sortI_ren:Go.Shelf.Ren:=⟨fun | 6=>88 | 15=>103 | 14=>102 | 28=>118 | 29=>119 | 20=>110 | 21=>111 | 22=>112 | 23=>113 | 24=>114 | 25=>115 | 26=>116 | 27=>117 | 46=>122 | 47=>123 | 48=>124 | 49=>125 | 50=>126 | 57=>128 | n=>n,fun | 22=>23 | 24=>3 | 25=>71 | 3=>3 | 39=>35 | 0=>0 | 53=>42 | 55=>93 | 4=>4 | 46=>177 | 45=>176 | 50=>119 | 5=>5 | 9=>9 | 66=>184 | 70=>188 | 76=>190 | 77=>191 | n=>n,fun | n=>n⟩
theorem Tryz.sortI:Go.Proofs.SlLaysF.n6 Tryz.prog Tryz.sortI_ren:={
  mixed:=by kernel_rfl
  f6:=⟨Tryz.f88.name,by decide,Tryz.func88.trans (congrArg some (by kernel_rfl))⟩
  f14:=⟨Tryz.f102.name,by decide,Tryz.func102.trans (congrArg some (by kernel_rfl))⟩
  f15:=Tryz.func103.trans (congrArg some (by kernel_rfl))
  f20:=⟨Tryz.f110.name,by decide,Tryz.func110.trans (congrArg some (by kernel_rfl))⟩
  f21:=⟨Tryz.f111.name,by decide,Tryz.func111.trans (congrArg some (by kernel_rfl))⟩
  f22:=⟨Tryz.f112.name,by decide,Tryz.func112.trans (congrArg some (by kernel_rfl))⟩
  f23:=⟨Tryz.f113.name,by decide,Tryz.func113.trans (congrArg some (by kernel_rfl))⟩
  f24:=⟨Tryz.f114.name,by decide,Tryz.func114.trans (congrArg some (by kernel_rfl))⟩
  f25:=⟨Tryz.f115.name,by decide,Tryz.func115.trans (congrArg some (by kernel_rfl))⟩
  f26:=⟨Tryz.f116.name,by decide,Tryz.func116.trans (congrArg some (by kernel_rfl))⟩
  f27:=⟨Tryz.f117.name,by decide,Tryz.func117.trans (congrArg some (by kernel_rfl))⟩
  f28:=Tryz.func118.trans (congrArg some (by kernel_rfl))
  f29:=Tryz.func119.trans (congrArg some (by kernel_rfl))
  f46:=⟨Tryz.f122.name,by decide,Tryz.func122.trans (congrArg some (by kernel_rfl))⟩
  f47:=Tryz.func123.trans (congrArg some (by kernel_rfl))
  f48:=Tryz.func124.trans (congrArg some (by kernel_rfl))
  f49:=⟨Tryz.f125.name,by decide,Tryz.func125.trans (congrArg some (by kernel_rfl))⟩
  f50:=⟨Tryz.f126.name,by decide,Tryz.func126.trans (congrArg some (by kernel_rfl))⟩
  f57:=⟨Tryz.f128.name,by decide,Tryz.func128.trans (congrArg some (by kernel_rfl))⟩
  t0:=Tryz.underlying0
  a0:=Tryz.isAgg0
  z0:=Tryz.sizeOf0
  v0:=Tryz.zeroValue0
  t3:=Tryz.underlying3
  a3:=Tryz.isAgg3
  z3:=Tryz.sizeOf3
  v3:=Tryz.zeroValue3
  t4:=Tryz.underlying4
  a4:=Tryz.isAgg4
  z4:=Tryz.sizeOf4
  v4:=Tryz.zeroValue4
  t5:=Tryz.underlying5
  a5:=Tryz.isAgg5
  z5:=Tryz.sizeOf5
  v5:=Tryz.zeroValue5
  t9:=Tryz.underlying9
  a9:=Tryz.isAgg9
  z9:=Tryz.sizeOf9
  v9:=Tryz.zeroValue9
  t22:=Tryz.underlying23
  a22:=Tryz.isAgg23
  z22:=Tryz.sizeOf23
  v22:=Tryz.zeroValue23
  a24:=Tryz.isAgg3
  z24:=Tryz.sizeOf3
  t25:=Tryz.underlying71
  a25:=Tryz.isAgg71
  z25:=Tryz.sizeOf71
  v25:=Tryz.zeroValue71
  t39:=Tryz.underlying35
  a39:=Tryz.isAgg35
  z39:=Tryz.sizeOf35
  v39:=Tryz.zeroValue35
  t45:=Tryz.underlying176
  a45:=Tryz.isAgg176
  z45:=Tryz.sizeOf176
  v45:=Tryz.zeroValue176
  t46:=Tryz.underlying177
  a46:=Tryz.isAgg177
  z46:=Tryz.sizeOf177
  v46:=Tryz.zeroValue177
  t50:=Tryz.underlying119
  a50:=Tryz.isAgg119
  z50:=Tryz.sizeOf119
  v50:=Tryz.zeroValue119
  t53:=Tryz.underlying42
  a53:=Tryz.isAgg42
  z53:=Tryz.sizeOf42
  v53:=Tryz.zeroValue42
  t55:=Tryz.underlying93
  a55:=Tryz.isAgg93
  z55:=Tryz.sizeOf93
  v55:=Tryz.zeroValue93
  t66:=Tryz.underlying184
  a66:=Tryz.isAgg184
  z66:=Tryz.sizeOf184
  v66:=Tryz.zeroValue184
  t70:=Tryz.underlying188
  a70:=Tryz.isAgg188
  z70:=Tryz.sizeOf188
  v70:=Tryz.zeroValue188
  t76:=Tryz.underlying190
  a76:=Tryz.isAgg190
  z76:=Tryz.sizeOf190
  v76:=Tryz.zeroValue190
  t77:=Tryz.underlying191
  a77:=Tryz.isAgg191
  z77:=Tryz.sizeOf191
  v77:=Tryz.zeroValue191 }
end Go.Proofs
namespace Go.Proofs.YtchaoonefiamdaaGreatDoor.L
open Go.RowKit Go.Maps
set_option linter.unusedVariables false
set_option linter.unusedSimpArgs false
def cmpN (x y:Nat):Int:=if x < y then -1 else if y < x then 1 else 0
set_option maxRecDepth 100000 in
theorem isNaN_any (x:Nat) (w:World):Calls Tryz.prog 104 #[.int .u32 (x:Int)] w fun e w'=>e=.returned (.bool false)∧w'=w:=by
  go_enter Tryz.func104,Tryz.ntmps104
  go_wp2_with fail
  go_ret
  exact ⟨by simp,rfl⟩
set_option maxRecDepth 100000 in
set_option maxHeartbeats 1000000 in
theorem compare_any (x y:Nat) (w:World):Calls Tryz.prog 90 #[.int .u32 (x:Int),.int .u32 (y:Int)] w fun e w'=>e=.returned (.int .i64 (cmpN x y))∧w'=w:=by
  by_cases h1:x < y
  · have e:cmpN x y=-1:=by unfold cmpN;rw [if_pos h1]
    rw [e]
    have t1:(x:Int) < (y:Int):=by omega
    go_enter Tryz.func90,Tryz.ntmps90
    go_wp2_with (go_at_call 104;refine Calls.mono (isNaN_any _ _) ?_;rintro e w1 ⟨rfl,rfl⟩)
    go_ret
    exact ⟨rfl,rfl⟩
  · have t1:decide ((x:Int) < (y:Int))=false:=decide_eq_false (by omega)
    by_cases h2:y < x
    · have e:cmpN x y=1:=by unfold cmpN;rw [if_neg h1,if_pos h2]
      rw [e]
      have t2:(y:Int) < (x:Int):=by omega
      go_enter Tryz.func90,Tryz.ntmps90
      go_wp2_with (go_at_call 104;refine Calls.mono (isNaN_any _ _) ?_;rintro e w1 ⟨rfl,rfl⟩)
      go_ret
      exact ⟨rfl,rfl⟩
    · have e:cmpN x y=0:=by unfold cmpN;rw [if_neg h1,if_neg h2]
      rw [e]
      have t2:decide ((y:Int) < (x:Int))=false:=decide_eq_false (by omega)
      go_enter Tryz.func90,Tryz.ntmps90
      go_wp2_with (go_at_call 104;refine Calls.mono (isNaN_any _ _) ?_;rintro e w1 ⟨rfl,rfl⟩)
      go_ret
      exact ⟨rfl,rfl⟩
set_option maxRecDepth 100000 in
set_option maxHeartbeats 1000000 in
theorem byOut_any (s t x y pa bo oo no co:Nat) (w:World) (hs:s < no) (ht:t < no) (hn:no≤1000000) (h1:w.cell? ⟨pa,1,none⟩=some (.slice (some ⟨bo,oo,none⟩) no co)) (h2:w.cell? ⟨bo,oo+s,none⟩=some (.int .u32 (x:Int))) (h3:w.cell? ⟨bo,oo+t,none⟩=some (.int .u32 (y:Int))) :
    Calls Tryz.prog 89 #[.int .i64 (s:Int),.int .i64 (t:Int),.pointer (some ⟨pa,0,none⟩)] w fun e w'=>e=.returned (.int .i64 (cmpN x y))∧∃ q,w'=w.drewN q:=by
  have i1:(s:Int) < (no:Int):=by omega
  have i2:(t:Int) < (no:Int):=by omega
  have l1:=World.block_lt_of_cell? w _ h1
  have l2:=World.block_lt_of_cell? w _ h2
  obtain ⟨r,hr⟩:∃ r,r=cmpN x y:=⟨_,rfl⟩
  have HC:Hid (∀ W,Calls Tryz.prog 90 #[.int .u32 (x:Int),.int .u32 (y:Int)] W fun e w'=>e=.returned (.int .i64 r)∧w'=W):=fun W=>by rw [hr];exact compare_any x y W
  rw [← hr]
  clear hr
  go_enter Tryz.func89,Tryz.ntmps89
  go_wp2_with fail
  go_quiet ((go_at_call 90;exact Calls.quiet_of_same (HC.out _)))
  go_wp2_with fail
  go_ret
  exact ⟨rfl,_,rfl⟩
end Go.Proofs.YtchaoonefiamdaaGreatDoor.L
namespace Go.Proofs.YtchaoonefiamdaaGreatDoor.L
open Go.RowKit Go.Maps Go.Shelf
set_option linter.unusedVariables false
set_option linter.unusedSimpArgs false
theorem ext_all {α:Type} (d:Array α) (n:Nat) (h:d.size=n):d.extract 0 n=d:=by subst h;simp
def encF (n:Nat) (x:Fin n):Value:=.int .i64 (x.val:Int)
theorem lt_cmp {n:Nat} (O:Nat→Nat) (x y:Fin n):ltOf (fun x y:Fin n=>cmpN (O x.val) (O y.val)) x y=decide (O x.val < O y.val):=by
  unfold ltOf cmpN
  by_cases h1:O x.val < O y.val
  · simp [h1]
  · by_cases h2:O y.val < O x.val <;> simp [h1,h2]
theorem swo_cmp {n:Nat} (O:Nat→Nat):Sort.SWO (ltOf (fun x y:Fin n=>cmpN (O x.val) (O y.val))):=by
  refine ⟨fun x=>?_,fun x y z h1 h2=>?_,fun x y z h1 h2=>?_⟩
  · rw [lt_cmp];simp
  · rw [lt_cmp] at *;simp at *;omega
  · rw [lt_cmp] at *;simp at *;omega
theorem sw_blk {α:Type} [Inhabited α] (enc:α→Value) (w:World) (blk m:Nat) (dk:Array α) (os:Array Obj) (b:Nat) (hb:b < w.heap.size) (hne:b≠blk):(sortWorld enc w blk 0 m dk os).heap[b]?=w.heap[b]?:=by
  unfold sortWorld
  rw [Sort.heap_grow_old _ _ (by simp [Sort.putRow,Sort.mapBlock,Sort.ahead];exact hb)]
  simp [Sort.putRow,Sort.mapBlock,Sort.ahead,Array.getElem?_modify]
  intro e
  exact absurd e.symm hne
theorem sw_row {n:Nat} [Inhabited (Fin n)] (w:World) (blk m:Nat) (dk:Array (Fin n)) (os:Array Obj) (hd:dk.size=n) (h:Nb w blk (List.range n)):Nb (sortWorld (encF n) w blk 0 m dk os) blk (dk.toList.map (·.val)):=by
  have hl:=h.lt
  unfold Nb at h ⊢
  unfold sortWorld
  rw [Sort.heap_grow_old _ _ (by simp [Sort.putRow,Sort.mapBlock,Sort.ahead];exact hl)]
  simp only [Sort.putRow,Sort.mapBlock,Sort.ahead,Array.getElem?_modify,if_true,h,Option.map_some,Sort.onCells]
  congr 2
  apply Array.ext_getElem?
  intro j
  simp only [Sort.putCells,Array.getElem?_mapIdx]
  rw [nums_at,nums_at]
  by_cases hj:j < n
  · rw [List.getElem?_range hj]
    simp only [Option.map_some]
    rw [if_pos (by omega),List.getElem?_map,Array.getElem?_toList,Array.getElem?_eq_getElem (by omega)]
    simp [encF,getElem!_pos,hd,hj]
  · rw [List.getElem?_eq_none (by simp;omega),List.getElem?_eq_none (by simp;omega)]
    rfl
theorem sw_only {n:Nat} [Inhabited (Fin n)] (w:World) (blk m:Nat) (dk:Array (Fin n)) (os:Array Obj):Only (fun b=>b=blk) w (sortWorld (encF n) w blk 0 m dk os) :=
  ⟨rfl,rfl,rfl,by simp [sortWorld,Sort.putRow,Sort.mapBlock,Sort.ahead],fun g hg hS=>sw_blk _ w blk m dk os g hg hS⟩
set_option maxRecDepth 100000 in
theorem sort_any (n pa bo oo co blk:Nat) (O:Nat→Nat) (w:World) (h0:0 < n) (hn:n≤100000) (hN:Nb w blk (List.range n)) (h1:w.cell? ⟨pa,1,none⟩=some (.slice (some ⟨bo,oo,none⟩) n co)) (h2:∀ s,s < n→w.cell? ⟨bo,oo+s,none⟩=some (.int .u32 (O s:Int))) (hp:pa≠blk) (hb:bo≠blk) :
    Calls Tryz.prog 88 #[.slice (some ⟨blk,0,none⟩) n n,.func (.func 89) #[] #[.pointer (some ⟨pa,0,none⟩)]] w fun e w'=>e=.returned (.tuple #[])∧∃ L:List Nat,L.Perm (List.range n)∧(∀ i j x y:Nat,i < j→L[i]?=some x→L[j]?=some y→O x≤O y)∧Nb w' blk L∧Only (fun b=>b=blk) w w':=by
  haveI:Inhabited (Fin n):=⟨⟨0,h0⟩⟩
  have eg:∀ args w,(callFunc 89 args).run Tryz.prog w=.ok (.enter 89 args) w:=enters_of Tryz.func89 (by kernel_rfl) rfl
  have l1:=World.block_lt_of_cell? w _ h1
  have l2:=World.block_lt_of_cell? w _ (h2 0 h0)
  obtain ⟨d,hd⟩:∃ d:Array (Fin n),d=Array.ofFn (fun i:Fin n=>i):=⟨_,rfl⟩
  have hds:d.size=n:=by rw [hd];simp
  have hcmp:CmpReads Tryz.prog 89 #[.pointer (some ⟨pa,0,none⟩)] (encF n) (fun x y:Fin n=>cmpN (O x.val) (O y.val)) blk 0 d.size w:=fun m os dk hs x y=>by
    have k:∀ b j v,b < w.heap.size→b≠blk→w.cell? ⟨b,j,none⟩=some v→(sortWorld (encF n) w blk 0 m dk os).cell? ⟨b,j,none⟩=some v:=fun b j v hb hne hv=>(World.cell?_of_block (a:=⟨b,j,none⟩) (sw_blk _ w blk m dk os b hb hne)).trans hv
    exact byOut_any x.val y.val (O x.val) (O y.val) pa bo oo n co _ x.isLt y.isLt (by omega) (k _ _ _ l1 hp h1) (k _ _ _ l2 hb (h2 _ x.isLt)) (k _ _ _ l2 hb (h2 _ y.isLt))
  have hH:Sort.Holds (encF n) w blk 0 d:=fun j hj=>by
    have hj':j < n:=by omega
    refine ⟨?_,hN.fz _⟩
    rw [Nat.zero_add]
    refine (hN.cell (List.getElem?_range hj')).trans ?_
    rw [hd,getElem!_pos _ j (by simp;exact hj')]
    simp [encF]
  have hcon:=Any.slices_SortFunc Tryz.sortI (encF n) (fun _=>rfl) (fun x y:Fin n=>cmpN (O x.val) (O y.val)) (swo_cmp O) 89 #[.pointer (some ⟨pa,0,none⟩)] blk 0 n d w eg hcmp.lays hH hN.lt (by omega)
  change Calls Tryz.prog 88 _ _ _ at hcon
  rw [hds] at hcon
  refine hcon.mono ?_
  rintro e w' ⟨he,d',m,os,hperm,hsort,rfl⟩
  obtain ⟨p1,_,p3⟩:=hperm
  have hds':d'.size=n:=by rw [p1,hds]
  refine ⟨he,d'.toList.map (·.val),?_,?_,sw_row w blk m d' os hds' hN,sw_only w blk m d' os⟩
  · have e1:d'.extract 0 n=d':=ext_all d' n hds'
    have e2:d.extract 0 n=d:=ext_all d n hds
    rw [e1,e2] at p3
    have p4:=p3.map (fun x:Fin n=>x.val)
    have e3:d.toList.map (fun x:Fin n=>x.val)=List.range n:=by
      rw [hd]
      apply List.ext_getElem?
      intro i
      by_cases hi:i < n
      · rw [List.getElem?_range hi];simp [hi]
      · rw [List.getElem?_eq_none (by simp;omega),List.getElem?_eq_none (by simp;omega)]
    rw [e3] at p4
    exact p4
  · intro i j x y hij hx hy
    rw [List.getElem?_map] at hx hy
    have hjl:j < d'.size:=by
      cases hh:d'.toList[j]? with
      | none=>rw [hh] at hy;cases hy
      | some z=>have:=(List.getElem?_eq_some_iff.1 hh).1;simpa using this
    have hil:i < d'.size:=by omega
    have hs:=hsort i j (Nat.zero_le _) hij (by omega)
    rw [lt_cmp] at hs
    rw [getElem!_pos _ j hjl,getElem!_pos _ i hil] at hs
    rw [Array.getElem?_toList,Array.getElem?_eq_getElem hil] at hx
    rw [Array.getElem?_toList,Array.getElem?_eq_getElem hjl] at hy
    injection hx with hx
    injection hy with hy
    subst hx
    subst hy
    simpa using hs
end Go.Proofs.YtchaoonefiamdaaGreatDoor.L
