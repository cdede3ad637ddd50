/- LNu0 LNm LRp LRp1 -/
import Derived.Test.YtdlabakleldgaaaGreatDoorZ23
import Derived.Test.YtdlabakleldgaaaGreatDoorZ28
import Derived.Laws.CopyRow
set_option linter.unusedVariables false
set_option linter.unusedSimpArgs false
set_option maxRecDepth 100000
set_option maxHeartbeats 8000000
namespace Go.Proofs.YtdlabakleldgaaaGreatDoor.L
namespace Hm
structure Cm (n k:Nat) (d:Nat→Nat→Nat) (o:Nat→Nat) (come:List Nat):Prop where
 zero:come[0]?=some 0
 lt:∀i t:Nat,come[i]?=some t→t < n
 one:∀i j s t:Nat,come[i]?=some s→come[j]?=some t→yB k d o s t→i=j
theorem Cm.start {n k:Nat} {d:Nat→Nat→Nat} {o:Nat→Nat} (h:0 < n):Cm n k d o [0]:=by
 refine⟨rfl,fun i t ht=>?_,fun i j s t hs ht _=>?_⟩
 ·have:=(List.getElem?_eq_some_iff.1 ht).1
  obtain rfl:i=0:=by simpa using this
  injection ht with ht
  omega
 ·have h1:=(List.getElem?_eq_some_iff.1 hs).1
  have h2:=(List.getElem?_eq_some_iff.1 ht).1
  simp at h1 h2
  omega
theorem Cm.more {n k:Nat} {d:Nat→Nat→Nat} {o:Nat→Nat} {come:List Nat} {u:Nat} (h:Cm n k d o come) (hu:u < n) (hn:∀i t:Nat,come[i]?=some t→¬ yB k d o t u):Cm n k d o (come++[u]):=by
 have h0:0 < come.length:=(List.getElem?_eq_some_iff.1 h.zero).1
 have key:∀i t:Nat,(come++[u])[i]?=some t→come[i]?=some t∨(i=come.length∧t=u):=fun i t ht=>by
  by_cases hi:i < come.length
  ·rw [List.getElem?_append_left hi] at ht
   exact Or.inl ht
  ·rw [List.getElem?_append_right (by omega)] at ht
   have:=(List.getElem?_eq_some_iff.1 ht).1
   simp at this
   have e:i=come.length:=by omega
   subst e
   rw [Nat.sub_self] at ht
   injection ht with ht
   exact Or.inr ⟨rfl,ht.symm⟩
 refine⟨by rw [List.getElem?_append_left h0];exact h.zero,fun i t ht=>?_,fun i j s t hs ht he=>?_⟩
 ·rcases key i t ht with h1 | ⟨_,rfl⟩
  ·exact h.lt i t h1
  ·exact hu
 ·rcases key i s hs with h1 | ⟨e1,rfl⟩
  ·rcases key j t ht with h2 | ⟨e2,rfl⟩
   ·exact h.one i j s t h1 h2 he
   ·exact absurd he (hn i s h1)
  ·rcases key j t ht with h2 | ⟨e2,rfl⟩
   ·exact absurd he.symm (hn j t h2)
   ·omega
theorem Cm.nd {n k:Nat} {d:Nat→Nat→Nat} {o:Nat→Nat} {come:List Nat} (h:Cm n k d o come):come.Nodup:=by
 rw [List.nodup_iff_pairwise_ne,List.pairwise_iff_getElem]
 intro i j hi hj hij e
 have hj':=List.getElem?_eq_getElem hj
 have hi':=List.getElem?_eq_getElem hi
 have:=h.one i j _ _ hi' hj' (by rw [e];exact Ip.refl _)
 omega
theorem KN:∀(n:Nat) (l:List Nat),l.Nodup→(∀x∈l,x < n)→l.length≤n
 | 0,l,_,h=>by
  cases l with
  | nil=>simp
  | cons a l=>have:=h a (by simp);omega
 | n+1,l,hd,h=>by
  have h1:(l.erase n).Nodup:=hd.erase n
  have h2:∀x∈l.erase n,x < n:=fun x hx=>by
   have h3:=(List.Nodup.mem_erase_iff hd).1 hx
   have:=h x h3.2
   omega
  have:=KN n _ h1 h2
  by_cases hm:n∈l
  ·rw [List.length_erase_of_mem hm] at this
   omega
  ·rw [List.erase_of_not_mem hm] at this
   omega
theorem Cm.len {n k:Nat} {d:Nat→Nat→Nat} {o:Nat→Nat} {come:List Nat} (h:Cm n k d o come):come.length≤n:=KN n come h.nd (fun x hx=>by
 obtain⟨i,hi⟩:=List.getElem?_of_mem hx
 exact h.lt i x hi)
structure Nr (n k:Nat) (d:Nat→Nat→Nat) (o:Nat→Nat) (dF:List Nat) (s:Nat) (come F:List Nat):Prop where
 cm:Cm n k d o come
 pre:∀i t:Nat,dF[i]?=some t→come[i]?=some t
 way:∀c j:Nat,F[c]?=some j→∃t,come[j]?=some t∧yB k d o t (d s c)
 ord:∀(G:List Nat) (M:Nat),Ord G come.length M→Ord (F++G) dF.length M
theorem Nr.start {n k:Nat} {d:Nat→Nat→Nat} {o:Nat→Nat} {come:List Nat} (s:Nat) (h:Cm n k d o come):Nr n k d o come s come []:=⟨h,fun _ _ h=>h,fun c j h=>(by cases h),fun _ _ h=>h⟩
theorem yI {F:List Nat} {x c j:Nat} (h:(F++[x])[c]?=some j):F[c]?=some j∨(c=F.length∧j=x):=by
 by_cases hi:c < F.length
 ·rw [List.getElem?_append_left hi] at h
  exact Or.inl h
 ·rw [List.getElem?_append_right (by omega)] at h
  have:=(List.getElem?_eq_some_iff.1 h).1
  simp at this
  have e:c=F.length:=by omega
  subst e
  rw [Nat.sub_self] at h
  injection h with h
  exact Or.inr ⟨rfl,h.symm⟩
theorem Nr.old {n k:Nat} {d:Nat→Nat→Nat} {o:Nat→Nat} {dF come F:List Nat} {s j t:Nat} (h:Nr n k d o dF s come F) (hj:come[j]?=some t) (ht:yB k d o t (d s F.length)):Nr n k d o dF s come (F++[j]):=by
 have hjl:=(List.getElem?_eq_some_iff.1 hj).1
 refine⟨h.cm,h.pre,fun c x hx=>?_,fun G M hG=>?_⟩
 ·rcases yI hx with h1 | ⟨rfl,rfl⟩
  ·exact h.way c x h1
  ·exact⟨t,hj,ht⟩
 ·rw [List.append_assoc]
  exact h.ord _ _ (by show Ord (j::G) _ _;unfold Ord;exact Or.inl ⟨hjl,hG⟩)
theorem Nr.new {n k:Nat} {d:Nat→Nat→Nat} {o:Nat→Nat} {dF come F:List Nat} {s u:Nat} (h:Nr n k d o dF s come F) (hu:u < n) (hn:∀i t:Nat,come[i]?=some t→¬ yB k d o t u) (ht:yB k d o u (d s F.length)):Nr n k d o dF s (come++[u]) (F++[come.length]):=by
 have up:∀i t:Nat,come[i]?=some t→(come++[u])[i]?=some t:=fun i t hi=>by
  rw [List.getElem?_append_left (List.getElem?_eq_some_iff.1 hi).1];exact hi
 refine⟨h.cm.more hu hn,fun i t hi=>up i t (h.pre i t hi),fun c x hx=>?_,fun G M hG=>?_⟩
 ·rcases yI hx with h1 | ⟨rfl,rfl⟩
  ·obtain⟨t,h2,h3⟩:=h.way c x h1
   exact⟨t,up _ _ h2,h3⟩
  ·exact⟨u,by rw [List.getElem?_append_right (Nat.le_refl _),Nat.sub_self];rfl,ht⟩
 ·rw [List.append_assoc]
  refine h.ord _ _ ?_
  show Ord (come.length::G) _ _
  unfold Ord
  rw [List.length_append] at hG
  exact Or.inr ⟨rfl,hG⟩
structure Nu (n k:Nat) (d:Nat→Nat→Nat) (o:Nat→Nat) (come:List Nat) (rows:List (List Nat)) (outs:List Nat):Prop where
 cm:Cm n k d o come
 le:rows.length≤come.length
 mK:outs.length=rows.length
 out:∀i s:Nat,i < rows.length→come[i]?=some s→outs[i]?=some (o s)
 row:∀(i s:Nat) (row:List Nat),come[i]?=some s→rows[i]?=some row→row.length=k∧∀c j:Nat,row[c]?=some j→∃t,come[j]?=some t∧yB k d o t (d s c)
 ord:∀(R:List (List Nat)) (M:Nat),jE R rows.length come.length M→jE (rows++R) 0 1 M
theorem Nu.start {n k:Nat} {d:Nat→Nat→Nat} {o:Nat→Nat} (h:0 < n):Nu n k d o [0] [] []:=⟨Cm.start h,by simp,rfl,fun i s hi=>(by simp at hi),fun i s row _ hr=>(by cases hr),fun R M h=>h⟩
theorem Nu.next {n k:Nat} {d:Nat→Nat→Nat} {o:Nat→Nat} {dF come outs F:List Nat} {rows:List (List Nat)} {s:Nat} (h:Nu n k d o dF rows outs) (hs:dF[rows.length]?=some s) (hr:Nr n k d o dF s come F) (hF:F.length=k):Nu n k d o come (rows++[F]) (outs++[o s]):=by
 have hlt:=(List.getElem?_eq_some_iff.1 hs).1
 have hle:dF.length≤come.length:=by
  have e:dF[dF.length - 1]?=some (dF[dF.length - 1]'(by omega)):=List.getElem?_eq_getElem _
  have:=(List.getElem?_eq_some_iff.1 (hr.pre _ _ e)).1
  omega
 have back:∀i t:Nat,i < dF.length→come[i]?=some t→dF[i]?=some t:=fun i t hi ht=>by
  have e:=List.getElem?_eq_getElem hi
  have e2:=hr.pre _ _ e
  rw [ht] at e2
  rw [e,e2]
 refine⟨hr.cm,by simp;omega,by simp [h.mK],fun i t hi ht=>?_,fun i t row ht hrow=>?_,fun R M hR=>?_⟩
 ·rw [List.length_append] at hi
  simp at hi
  by_cases hil:i < rows.length
  ·rw [List.getElem?_append_left (by rw [h.mK];exact hil)]
   exact h.out i t hil (back i t (by omega) ht)
  ·have e:i=rows.length:=by omega
   subst e
   have e2:=hr.pre _ _ hs
   rw [ht] at e2
   injection e2 with e2
   rw [List.getElem?_append_right (by rw [h.mK];exact Nat.le_refl _),h.mK,Nat.sub_self,e2]
   rfl
 ·by_cases hil:i < rows.length
  ·rw [List.getElem?_append_left hil] at hrow
   obtain⟨h1,h2⟩:=h.row i t row (back i t (by omega) ht) hrow
   refine⟨h1,fun c j hj=>?_⟩
   obtain⟨u,h3,h4⟩:=h2 c j hj
   exact⟨u,hr.pre _ _ h3,h4⟩
  ·have hb:=(List.getElem?_eq_some_iff.1 hrow).1
   simp at hb
   have e:i=rows.length:=by omega
   subst e
   rw [List.getElem?_append_right (Nat.le_refl _),Nat.sub_self] at hrow
   injection hrow with hrow
   subst hrow
   have e2:=hr.pre _ _ hs
   rw [ht] at e2
   injection e2 with e2
   subst e2
   exact⟨hF,hr.way⟩
 ·rw [List.append_assoc]
  refine h.ord _ _ ?_
  show jE (F::R) _ _ _
  unfold jE
  rw [List.length_append] at hR
  refine⟨hlt,come.length,?_,hR⟩
  have:=hr.ord [] come.length (by unfold Ord;rfl)
  rwa [List.append_nil] at this
theorem Nu.done {n k:Nat} {d:Nat→Nat→Nat} {o:Nat→Nat} {come outs:List Nat} {rows:List (List Nat)} (h:Nu n k d o come rows outs) (he:come.length≤rows.length):iq n k d o rows outs come:=by
 have hl:=h.le
 refine⟨h.cm.zero,by omega,h.mK,fun i s hs=>⟨h.cm.lt i s hs,h.out i s (by have:=(List.getElem?_eq_some_iff.1 hs).1;omega) hs⟩,fun i s hs=>?_,h.cm.one,?_⟩
 ·have hi:=(List.getElem?_eq_some_iff.1 hs).1
  have e:rows[i]?=some (rows[i]'(by omega)):=List.getElem?_eq_getElem _
  obtain⟨h1,h2⟩:=h.row i s _ hs e
  exact⟨_,e,h1,h2⟩
 ·have:=h.ord [] rows.length (by unfold jE;omega)
  rwa [List.append_nil] at this
/-! ### states told apart until nothing changes -/
structure Ap (n k:Nat) (d:Nat→Nat→Nat) (o:Nat→Nat) (A:Nat→Nat→Bool):Prop where
 sound:∀i j,i < n→j < n→A i j=true→¬ yB k d o i j
 out:∀i j,i < n→j < n→A i j=false→o i=o j
def put (A:Nat→Nat→Bool) (i j:Nat):Nat→Nat→Bool:=fun x y=>if x=i∧y=j then true else A x y
structure Fst (n k:Nat) (d:Nat→Nat→Nat) (o:Nat→Nat) (f:Nat→Nat):Prop where
 le:∀i,i < n→f i≤i
 eq:∀i,i < n→yB k d o i (f i)
 least:∀i j,i < n→j < n→yB k d o i j→f i≤j
end Hm
end Go.Proofs.YtdlabakleldgaaaGreatDoor.L
namespace Go.Proofs.YtdlabakleldgaaaGreatDoor.L
open Go.RowKit Go.Maps
def iO (L:List Nat):List Value:=L.map fun (x:Nat)=>.int .i64 (x:Int)
def jw (n:Nat):Value:=.int .u32 (n:Int)
theorem xg (L:List Nat):(nums L).toList=iO L:=by simp [nums,iO]
theorem Ay (L:List Nat):(iO L).length=L.length:=by simp [iO]
theorem GL (L:List Nat) (x:Nat):iO (L++[x])=iO L++[.int .i64 (x:Int)]:=by simp [iO]
def Ra (W:World) (lo:Nat) (v:Value) (nx:List (List Nat)) (o:List Nat):Prop:=∃(vX vO:Value) (rows:List Value),v=.agg #[vX,vO]∧rows.length=nx.length∧W.ownsRow lo 28 1 vX rows.length rows∧(∀(i:Nat) (r:Value) (L:List Nat),rows[i]?=some r→nx[i]?=some L→W.ownsRow lo 3 1 r L.length (iO L))∧W.ownsRow lo 32 1 vO o.length (o.map jw)
theorem Ra.keep {w w':World} {lo:Nat} {v:Value} {nx:List (List Nat)} {o:List Nat} (h:Ra w lo v nx o) (ho:Only (fun _=>False) w w'):Ra w' lo v nx o:=by
 obtain⟨vX,vO,rows,h1,h2,h3,h4,h5⟩:=h
 exact⟨vX,vO,rows,h1,h2,ai h3 ho (fun _ _ h=>h),fun i r L hr hL=>ai (h4 i r L hr hL) ho (fun _ _ h=>h),ai h5 ho (fun _ _ h=>h)⟩
theorem own_ne {w:World} {base e size n b:Nat} {v:Value} {xs:List Value} {cs:Array Value} {t:TypeId} (h:w.ownsRow base e size v n xs) (hb:w.heap[b]?=some (.cells cs t (0,0))) (ht:t≠e):v.ownBlock≠some b:=fun hq=>by
 obtain⟨_,cur,hc⟩:=bz h hq
 rw [hb] at hc
 injection hc with hc
 injection hc with _ hc
 exact ht hc
theorem pY {w:World} {base e size n base' e' size' n' q:Nat} {v v':Value} {xs xs':List Value} (h:w.ownsRow base e size v n xs) (h':w.ownsRow base' e' size' v' n' xs') (ht:e'≠e) (hq:v'.ownBlock=some q):v.ownBlock≠some q:=by
 obtain⟨_,cur,hc⟩:=bz h' hq
 exact own_ne h hc ht
theorem uI {w:World} {base e size n q:Nat} {v:Value} {xs:List Value} (h:w.ownsRow base e size v n xs) (hq:v.ownBlock=some q):q < w.heap.size:=by
 obtain⟨_,cur,hc⟩:=bz h hq
 exact (Array.getElem?_eq_some_iff.1 hc).1
theorem KO {vs:List Value} {v r:Value} {i:Nat} (h:(vs++[v])[i]?=some r):vs[i]?=some r∨(i=vs.length∧r=v):=by
 by_cases hi:i < vs.length
 ·rw [List.getElem?_append_left hi] at h
  exact Or.inl h
 ·rw [List.getElem?_append_right (by omega)] at h
  have:=(List.getElem?_eq_some_iff.1 h).1
  simp at this
  have e:i=vs.length:=by omega
  subst e
  rw [Nat.sub_self] at h
  injection h with h
  exact Or.inr ⟨rfl,h.symm⟩
structure Nm (W:World) (nB lB n:Nat) (nu:Nat→Int) (come:List Nat) (vC vN vO:Value) (rows:List (List Nat)) (outs:List Nat) (vs:List Value):Prop where
 num:W.heap[nB]?=some (.cells (rowOf n (fun x=>.int .i64 (nu x))) 3 (0,0))
 ET:W.ownsRow (nB+1) 3 1 vC come.length (iO come)
 P_:nB < lB
 iE:W.heap[lB]?=some (.cells #[vN,vO] 71 (0,0))
 vl:vs.length=rows.length
 nx:W.ownsRow (nB+1) 28 1 vN rows.length vs
 each:∀(i:Nat) (r:Value) (L:List Nat),vs[i]?=some r→rows[i]?=some L→W.ownsRow (nB+1) 3 1 r L.length (iO L)
 far:∀r∈vs,∀q,r.ownBlock=some q→vC.ownBlock≠some q
 out:W.ownsRow (nB+1) 32 1 vO outs.length (outs.map jw)
theorem Nm.one {W:World} {nB lB n:Nat} {nu:Nat→Int} {come:List Nat} {vC vN vO:Value} {rows:List (List Nat)} {outs:List Nat} {vs:List Value} (h:Nm W nB lB n nu come vC vN vO rows outs vs) {r:Value} (hr:r∈vs):∃L:List Nat,W.ownsRow (nB+1) 3 1 r L.length (iO L):=by
 obtain⟨i,hi⟩:=List.getElem?_of_mem hr
 have hl:=(List.getElem?_eq_some_iff.1 hi).1
 have e2:rows[i]?=some (rows[i]'(by rw [←h.vl];exact hl)):=List.getElem?_eq_getElem _
 exact⟨_,h.each _ r _ hi e2⟩
theorem Nm.keep {S:Nat→Prop} {W W':World} {nB lB n:Nat} {nu:Nat→Int} {come:List Nat} {vC vN vO:Value} {rows:List (List Nat)} {outs:List Nat} {vs:List Value} (h:Nm W nB lB n nu come vC vN vO rows outs vs) (ho:Only S W W') (h1:¬ S nB) (h2:∀q,vC.ownBlock=some q→¬ S q) (h3:¬ S lB) (h4:∀q,vN.ownBlock=some q→¬ S q) (h5:∀r∈vs,∀q,r.ownBlock=some q→¬ S q) (h6:∀q,vO.ownBlock=some q→¬ S q):Nm W' nB lB n nu come vC vN vO rows outs vs:=
 ⟨(ho.block nB (Array.getElem?_eq_some_iff.1 h.num).1 h1).trans h.num,aQ h.ET ho h2,h.P_,(ho.block lB (Array.getElem?_eq_some_iff.1 h.iE).1 h3).trans h.iE,h.vl,aQ h.nx ho h4,fun i r L hr hL=>aQ (h.each i r L hr hL) ho (h5 r (List.mem_of_getElem? hr)),h.far,aQ h.out ho h6⟩
theorem Nm.idle {W W':World} {nB lB n:Nat} {nu:Nat→Int} {come:List Nat} {vC vN vO:Value} {rows:List (List Nat)} {outs:List Nat} {vs:List Value} (h:Nm W nB lB n nu come vC vN vO rows outs vs) (ho:Only (fun _=>False) W W'):Nm W' nB lB n nu come vC vN vO rows outs vs:=
 h.keep ho (fun h=>h) (fun _ _ h=>h) (fun h=>h) (fun _ _ h=>h) (fun _ _ _ _ h=>h) (fun _ _ h=>h)
theorem Nm.Db {W:World} {nB lB n:Nat} {nu:Nat→Int} {come:List Nat} {vC vN vO:Value} {rows:List (List Nat)} {outs:List Nat} {vs:List Value} (h:Nm W nB lB n nu come vC vN vO rows outs vs) (x:Nat) (j:Int):Nm (W.setCell ⟨nB,x,none⟩ (.int .i64 j)) nB lB n (fun y=>if y=x then j else nu y) come vC vN vO rows outs vs:=by
 have ho:Only (fun b=>b=nB) W (W.setCell ⟨nB,x,none⟩ (.int .i64 j)):=(Only.refl (fun b=>b=nB) W).setCell (p:=⟨nB,x,none⟩) rfl _
 have big:∀ {base e size m:Nat} {v:Value} {xs:List Value},W.ownsRow (nB+1) e size v m xs→∀q,v.ownBlock=some q→¬ q=nB:=fun h q hq e=>by have:=(bz h hq).1;omega
 refine⟨?_,aQ h.ET ho (fun q hq=>by have:=(bz h.ET hq).1;omega),h.P_,(ho.block lB (Array.getElem?_eq_some_iff.1 h.iE).1 (by have:=h.P_;omega)).trans h.iE,h.vl,aQ h.nx ho (fun q hq=>by have:=(bz h.nx hq).1;omega),fun i r L hr hL=>aQ (h.each i r L hr hL) ho (fun q hq=>by have:=(bz (h.each i r L hr hL) hq).1;omega),h.far,aQ h.out ho (fun q hq=>by have:=(bz h.out hq).1;omega)⟩
 rw [aa h.num,mi]
 congr 2
 unfold rowOf
 congr 2
 funext y
 split <;> rfl
theorem Nm.yK {W W':World} {nB lB n g cap H t:Nat} {nu:Nat→Int} {come:List Nat} {vC vN vO:Value} {rows:List (List Nat)} {outs:List Nat} {vs:List Value} (h:Nm W nB lB n nu come vC vN vO rows outs vs) (ho:Only (fun b=>vC.ownBlock=some b) W W') (h5:W'.ownsRow (nB+1) 3 1 (.slice (some ⟨g,0,none⟩) (come.length+1) cap) (come.length+1) (iO come++[.int .i64 (t:Int)])) (hat:vC.ownBlock=some g∨g=H) (hH:W.heap.size≤H):Nm W' nB lB n nu (come++[t]) (.slice (some ⟨g,0,none⟩) (come.length+1) cap) vN vO rows outs vs:=by
 refine⟨(ho.block nB (Array.getElem?_eq_some_iff.1 h.num).1 (fun hq=>by have:=(bz h.ET hq).1;omega)).trans h.num,?_,h.P_,(ho.block lB (Array.getElem?_eq_some_iff.1 h.iE).1 (own_ne h.ET h.iE (by decide))).trans h.iE,h.vl,aQ h.nx ho (fun q hq=>pY h.ET h.nx (by decide) hq),fun i r L hr hL=>aQ (h.each i r L hr hL) ho (fun q hq=>h.far r (List.mem_of_getElem? hr) q hq),fun r hr q hq e=>?_,aQ h.out ho (fun q hq=>pY h.ET h.out (by decide) hq)⟩
 ·rw [GL,List.length_append]
  exact h5
 ·have e2:g=q:=by injection e
  subst e2
  rcases hat with h1 | h1
  ·exact h.far r hr g hq h1
  ·obtain⟨L,h2⟩:=h.one hr
   have:=uI h2 hq
   omega
structure Wa (W:World) (nB wB:Nat) (vC:Value) (vs:List Value) (l:List Nat):Prop where
 blk:Nb W wB l
 lt:nB < wB
 far:vC.ownBlock≠some wB
 fr:∀r∈vs,r.ownBlock≠some wB
theorem Wa.Db {W:World} {nB wB:Nat} {vC:Value} {vs:List Value} {l:List Nat} (h:Wa W nB wB vC vs l) (x:Nat) (v:Value):Wa (W.setCell ⟨nB,x,none⟩ v) nB wB vC vs l:=⟨h.blk.off (by have:=h.lt;omega) _ _,h.lt,h.far,h.fr⟩
theorem Wa.yK {W W':World} {nB wB g m cap H:Nat} {vC:Value} {vs:List Value} {l:List Nat} (h:Wa W nB wB vC vs l) (ho:Only (fun b=>vC.ownBlock=some b) W W') (hat:vC.ownBlock=some g∨g=H) (hH:W.heap.size≤H):Wa W' nB wB (.slice (some ⟨g,0,none⟩) m cap) vs l:=by
 refine⟨h.blk.only ho h.far,h.lt,fun e=>?_,h.fr⟩
 have e2:g=wB:=by injection e
 subst e2
 rcases hat with h1 | h1
 ·exact h.far h1
 ·have:=h.blk.lt
  omega
theorem Wa.set {W:World} {nB wB:Nat} {vC:Value} {vs:List Value} {l:List Nat} (h:Wa W nB wB vC vs l) (c j:Nat):Wa (W.setCell ⟨wB,c,none⟩ (.int .i64 (j:Int))) nB wB vC vs (l.set c j):=⟨h.blk.set c j,h.lt,h.far,h.fr⟩
theorem Nm.KP {W:World} {nB lB n wB:Nat} {nu:Nat→Int} {come l:List Nat} {vC vN vO:Value} {rows:List (List Nat)} {outs:List Nat} {vs:List Value} (h:Nm W nB lB n nu come vC vN vO rows outs vs) (hw:Wa W nB wB vC vs l) (c:Nat) (v:Value):Nm (W.setCell ⟨wB,c,none⟩ v) nB lB n nu come vC vN vO rows outs vs:=by
 have ho:Only (fun b=>b=wB) W (W.setCell ⟨wB,c,none⟩ v):=(Only.refl (fun b=>b=wB) W).setCell (p:=⟨wB,c,none⟩) rfl _
 refine h.keep ho (by have:=hw.lt;omega) (fun q hq e=>hw.far (e ▸ hq)) (fun e=>?_) (fun q hq e=>own_ne h.nx hw.blk (by decide) (e ▸ hq)) (fun r hr q hq e=>hw.fr r hr (e ▸ hq)) (fun q hq e=>own_ne h.out hw.blk (by decide) (e ▸ hq))
 have h1:=h.iE
 have h2:=hw.blk
 unfold Nb at h2
 rw [e,h2] at h1
 injection h1 with h1
 injection h1 with _ h1
 cases h1
theorem Nm.Su {W W':World} {nB lB n g cap:Nat} {nu:Nat→Int} {come F:List Nat} {vC vN vO vW:Value} {rows:List (List Nat)} {outs:List Nat} {vs:List Value} (h:Nm W nB lB n nu come vC vN vO rows outs vs) (hv:W.ownsRow (nB+1) 3 1 vW F.length (iO F)) (hf:∀q,vW.ownBlock=some q→vC.ownBlock≠some q) (ho:Only (fun b=>vN.ownBlock=some b) W W') (h5:W'.ownsRow (nB+1) 28 1 (.slice (some ⟨g,0,none⟩) (rows.length+1) cap) (rows.length+1) (vs++[vW])):Nm (W'.setCell ⟨lB,0,none⟩ (.slice (some ⟨g,0,none⟩) (rows.length+1) cap)) nB lB n nu come vC (.slice (some ⟨g,0,none⟩) (rows.length+1) cap) vO (rows++[F]) outs (vs++[vW]):=by
 have hl':W'.heap[lB]?=some (.cells #[vN,vO] 71 (0,0)):=(ho.block lB (Array.getElem?_eq_some_iff.1 h.iE).1 (own_ne h.nx h.iE (by decide))).trans h.iE
 have o2:Only (fun b=>vN.ownBlock=some b∨b=lB) W (W'.setCell ⟨lB,0,none⟩ (.slice (some ⟨g,0,none⟩) (rows.length+1) cap)):=(ho.mono (S':=fun b=>vN.ownBlock=some b∨b=lB) (fun b hb=>Or.inl hb)).setCell (p:=⟨lB,0,none⟩) (Or.inr rfl) _
 have o3:Only (fun b=>b=lB) W' (W'.setCell ⟨lB,0,none⟩ (.slice (some ⟨g,0,none⟩) (rows.length+1) cap)):=(Only.refl (fun b=>b=lB) W').setCell (p:=⟨lB,0,none⟩) rfl _
 have stay:∀ {m:Nat} {v:Value} {xs:List Value},W.ownsRow (nB+1) 3 1 v m xs→(W'.setCell ⟨lB,0,none⟩ (.slice (some ⟨g,0,none⟩) (rows.length+1) cap)).ownsRow (nB+1) 3 1 v m xs:=fun hv=>aQ hv o2 (fun q hq e=>by
  rcases e with e | e
  ·exact pY hv h.nx (by decide) e hq
  ·subst e;exact own_ne hv h.iE (by decide) hq)
 refine⟨(o2.block nB (Array.getElem?_eq_some_iff.1 h.num).1 (fun e=>?_)).trans h.num,stay h.ET,h.P_,?_,by simp [h.vl],?_,fun i r L hr hL=>?_,fun r hr q hq=>?_,?_⟩
 ·rcases e with e | e
  ·exact own_ne h.nx h.num (by decide) e
  ·have:=h.P_;omega
 ·rw [aa hl']
  rfl
 ·rw [List.length_append]
  exact aQ h5 o3 (fun q hq e=>by subst e;exact own_ne h5 hl' (by decide) hq)
 ·rcases KO hr with h1 | ⟨h1,h2⟩
  ·have hi:=(List.getElem?_eq_some_iff.1 h1).1
   rw [List.getElem?_append_left (by rw [←h.vl];exact hi)] at hL
   exact stay (h.each i r L h1 hL)
  ·rw [h1,h.vl,List.getElem?_append_right (Nat.le_refl _),Nat.sub_self] at hL
   injection hL with hL
   subst hL
   subst h2
   exact stay hv
 ·rcases List.mem_append.1 hr with h1 | h1
  ·exact h.far r h1 q hq
  ·rw [List.mem_singleton] at h1
   subst h1
   exact hf q hq
 ·exact aQ h.out o2 (fun q hq e=>by
   rcases e with e | e
   ·exact pY h.out h.nx (by decide) e hq
   ·subst e;exact own_ne h.out h.iE (by decide) hq)
theorem Wa.own {W:World} {nB wB:Nat} {vC:Value} {vs:List Value} {F:List Nat} (h:Wa W nB wB vC vs F) (hF:F.length≤maxLen):W.ownsRow (nB+1) 3 1 (.slice (some ⟨wB,0,none⟩) F.length F.length) F.length (iO F):=by
 refine⟨by rw [Ay];omega,Or.inr ⟨wB,F.length,nums F,rfl,h.lt,h.blk,Nat.le_refl _,hF,by rw [l9,Nat.mul_one],?_⟩⟩
 rw [xg,Nat.mul_one,List.take_of_length_le (by rw [Ay];exact Nat.le_refl _)]
theorem Wa.ne {W:World} {nB wB m c:Nat} {vC:Value} {vs:List Value} {F:List Nat} (h:Wa W nB wB vC vs F):∀q,(Value.slice (some ⟨wB,0,none⟩) m c).ownBlock=some q→vC.ownBlock≠some q:=fun q hq=>by
 have e2:wB=q:=by injection hq
 subst e2
 exact h.far
theorem Nm.Sv {W W':World} {nB lB n g cap o:Nat} {nu:Nat→Int} {come:List Nat} {vC vN vO:Value} {rows:List (List Nat)} {outs:List Nat} {vs:List Value} (h:Nm W nB lB n nu come vC vN vO rows outs vs) (ho:Only (fun b=>vO.ownBlock=some b) W W') (h5:W'.ownsRow (nB+1) 32 1 (.slice (some ⟨g,0,none⟩) (outs.length+1) cap) (outs.length+1) (outs.map jw++[jw o])):Nm (W'.setCell ⟨lB,1,none⟩ (.slice (some ⟨g,0,none⟩) (outs.length+1) cap)) nB lB n nu come vC vN (.slice (some ⟨g,0,none⟩) (outs.length+1) cap) rows (outs++[o]) vs:=by
 have hl':W'.heap[lB]?=some (.cells #[vN,vO] 71 (0,0)):=(ho.block lB (Array.getElem?_eq_some_iff.1 h.iE).1 (own_ne h.out h.iE (by decide))).trans h.iE
 have o2:Only (fun b=>vO.ownBlock=some b∨b=lB) W (W'.setCell ⟨lB,1,none⟩ (.slice (some ⟨g,0,none⟩) (outs.length+1) cap)):=(ho.mono (S':=fun b=>vO.ownBlock=some b∨b=lB) (fun b hb=>Or.inl hb)).setCell (p:=⟨lB,1,none⟩) (Or.inr rfl) _
 have o3:Only (fun b=>b=lB) W' (W'.setCell ⟨lB,1,none⟩ (.slice (some ⟨g,0,none⟩) (outs.length+1) cap)):=(Only.refl (fun b=>b=lB) W').setCell (p:=⟨lB,1,none⟩) rfl _
 have stay:∀ {e m:Nat} {v:Value} {xs:List Value},e≠32→e≠71→W.ownsRow (nB+1) e 1 v m xs→(W'.setCell ⟨lB,1,none⟩ (.slice (some ⟨g,0,none⟩) (outs.length+1) cap)).ownsRow (nB+1) e 1 v m xs:=fun h1 h2 hv=>aQ hv o2 (fun q hq e=>by
  rcases e with e | e
  ·exact pY hv h.out (fun e=>h1 e.symm) e hq
  ·subst e;exact own_ne hv h.iE (fun e=>h2 e.symm) hq)
 refine⟨(o2.block nB (Array.getElem?_eq_some_iff.1 h.num).1 (fun e=>?_)).trans h.num,stay (by decide) (by decide) h.ET,h.P_,?_,h.vl,stay (by decide) (by decide) h.nx,fun i r L hr hL=>stay (by decide) (by decide) (h.each i r L hr hL),h.far,?_⟩
 ·rcases e with e | e
  ·exact own_ne h.out h.num (by decide) e
  ·have:=h.P_;omega
 ·rw [aa hl']
  rfl
 ·rw [List.length_append,List.map_append]
  exact aQ h5 o3 (fun q hq e=>by subst e;exact own_ne h5 hl' (by decide) hq)
theorem V6 (n:Nat) (h:n < 4294967296):bits .and .u64 (n:Int) 4294967295=(n:Int):=by
 have h127:(BitVec.ofInt 64 4294967295).toNat=2 ^ 32 - 1:=by decide
 have key:(BitVec.ofInt 64 n &&& BitVec.ofInt 64 4294967295).toNat=((n:Int) %((2 ^ 64:Nat):Int)).toNat % 2 ^ 32:=by
  rw [BitVec.toNat_and,BitVec.toNat_ofInt,h127,Nat.and_two_pow_sub_one_eq_mod]
 show IntKind.u64.wrap ((BitVec.ofInt 64 n &&& BitVec.ofInt 64 4294967295).toNat:Nat)=(n:Int)
 rw [key,IntKind.wrap_u64]
 omega
theorem GM (n:Nat) (w:World) (hn:n≤100000):Calls Tryz.prog 128 #[.int .u64 1,.int .u64 (n:Int)] w fun e w'=>e=.returned (.tuple #[.int .u64 0,.int .u64 (n:Int)])∧w=w':=by
 have b1:bits .and .u64 1 4294967295=1:=by decide
 have b2:bits .and .u64 (n:Int) 4294967295=(n:Int):=V6 n (by omega)
 have b3:(n:Int) / 4294967296=0:=by omega
 have b4:IntKind.u64.wrap (n:Int)=(n:Int):=by rw [IntKind.wrap_u64];omega
 have b5:bits .and .u64 0 4294967295=0:=by decide
 go_enter Tryz.func128,Tryz.ntmps128
 go_wp2_with fail
 go_ret2
 exact⟨rfl,rfl⟩
theorem mul_one (n:Nat) (w:World) (hn:n≤100000):Calls Tryz.prog 113 #[.int .u64 1,.int .u64 (n:Int)] w fun e w'=>e=.returned (.tuple #[.int .u64 0,.int .u64 (n:Int)])∧w=w':=by
 go_enter Tryz.func113,Tryz.ntmps113
 go_wp2_with (go_at_call 128;refine (GM n _ hn).mono ?_;rintro e w' ⟨rfl,rfl⟩)
 go_ret2
 exact⟨rfl,rfl⟩
def tJ (k j:Nat):Value:=if j < k then .int .i64 (-1) else .int .i64 0
theorem EU (n k:Nat):(rowOf n (tJ k)).toList=(List.range n).map (tJ k):=by simp [rowOf]
theorem Oh (n k q:Nat) (hk:k≤n) (hq:q=Nat.min k (n - k)):((rowOf n (tJ k)).toList.take k++List.replicate q (Value.int .i64 (-1))++(rowOf n (tJ k)).toList.drop (k+q)).toArray=rowOf n (tJ (k+q)):=by
 have Iy:k+q≤n:=by rw [hq];have:Nat.min k (n - k)≤n - k:=Nat.min_le_right _ _;omega
 apply Array.ext_getElem?
 intro j
 rw [EU,List.getElem?_toArray]
 by_cases h1:j < n
 ·rw [bW _ h1]
  by_cases h2:j < k
  ·rw [List.append_assoc,List.getElem?_append_left (by simp;omega),List.getElem?_take,if_pos h2,List.getElem?_map,List.getElem?_range h1]
   unfold tJ
   simp [h2]
   omega
  ·by_cases h3:j < k+q
   ·rw [List.append_assoc,List.getElem?_append_right (by simp;omega),List.getElem?_append_left (by simp;omega),List.getElem?_replicate,if_pos (by simp;omega)]
    unfold tJ
    rw [if_pos h3]
   ·rw [List.append_assoc,List.getElem?_append_right (by simp;omega),List.getElem?_append_right (by simp;omega),List.getElem?_drop,List.getElem?_map]
    simp only [List.length_take,List.length_map,List.length_range,List.length_replicate]
    rw [show k+q+(j - min k n - q)=j by omega,List.getElem?_range h1]
    unfold tJ
    simp [h2,h3]
 ·rw [List.getElem?_eq_none (by simp;omega),Array.getElem?_eq_none (by rw [dL];omega)]
theorem KQ:(Tryz.prog.info? 3).map (·.size)=some 1:=by kernel_rfl
theorem Sw (W:World) (nB n k q:Nat) (hk:k≤n) (h1:0 < k) (hq:q=Nat.min k (n - k)) (hb:W.heap[nB]?=some (.cells (rowOf n (tJ k)) 3 (0,0))):(Builtin.copy_ #[28,28] 3 #[.slice (some ⟨nB,k,none⟩) (n - k) (n - k),.slice (some ⟨nB,0,none⟩) k n]).run Tryz.prog W=.ok (.int .i64 (q:Int)) (W.setRow nB (rowOf n (tJ (k+q)))):=by
 have hqk:q≤k:=by rw [hq];exact Nat.min_le_left _ _
 have Iy:k+q≤n:=by rw [hq];have:Nat.min k (n - k)≤n - k:=Nat.min_le_right _ _;omega
 have h:=run_copy_row (P:=Tryz.prog) W 28 28 3 3 nB k (n - k) (n - k) ⟨nB,0,none⟩ k n (rowOf n (tJ k)) 3 (List.replicate q (.int .i64 (-1))) Tryz.underlying28 KQ hb (by simp [hq]) (fun j v hj=>?_) (by simp [dL];omega) (fun v hv=>by rw [List.eq_of_mem_replicate hv];rfl)
 ·rw [h,List.length_replicate,Oh n k q hk hq]
  rfl
 ·have hjl:=(List.getElem?_eq_some_iff.1 hj).1
  simp at hjl
  rw [List.getElem?_replicate,if_pos hjl] at hj
  injection hj with hj
  subst hj
  rw [Addr.add_mid,Nat.zero_add,ae hb,bW _ (by omega)]
  unfold tJ
  rw [if_pos (by omega)]
theorem KR (W:World) (nB n b:Nat) (h0:0 < n) (hx:W.cell? ⟨b,0,none⟩=some (.int .i64 (-1))) (hb:W.heap[nB]?=some (.cells (rowOf n (tJ 0)) 3 (0,0))):(Builtin.copy_ #[28,28] 3 #[.slice (some ⟨nB,0,none⟩) n n,.slice (some ⟨b,0,none⟩) 1 1]).run Tryz.prog W=.ok (.int .i64 1) (W.setRow nB (rowOf n (tJ 1))):=by
 have h:=run_copy_row (P:=Tryz.prog) W 28 28 3 3 nB 0 n n ⟨b,0,none⟩ 1 1 (rowOf n (tJ 0)) 3 [.int .i64 (-1)] Tryz.underlying28 KQ hb (by simp [Nat.min_def];omega) (fun j v hj=>?_) (by simp [dL];omega) (fun v hv=>by simp at hv;subst hv;rfl)
 ·rw [h]
  congr 2
  apply Array.ext_getElem?
  intro j
  rw [EU,List.getElem?_toArray]
  by_cases h1:j < n
  ·rw [bW _ h1]
   by_cases h2:j=0
   ·subst h2
    rfl
   ·simp only [List.take_zero,List.nil_append,List.length_singleton]
    rw [List.getElem?_append_right (by simp;omega),List.getElem?_drop,List.getElem?_map]
    simp only [List.length_singleton]
    rw [show 0+1+(j - 1)=j by omega,List.getElem?_range h1]
    unfold tJ
    simp
    exact h2
  ·rw [List.getElem?_eq_none (by simp;omega),Array.getElem?_eq_none (by rw [dL];omega)]
 ·have hjl:=(List.getElem?_eq_some_iff.1 hj).1
  obtain rfl:j=0:=by simpa using hjl
  injection hj with hj
  subst hj
  rw [Addr.add_mid]
  exact hx
theorem uK {W:World} {nB:Nat} {cs X:Array Value} {t:TypeId} (hb:W.heap[nB]?=some (.cells cs t (0,0))):(W.setRow nB X).heap[nB]?=some (.cells X t (0,0)):=setRow_heap _ _ _ _ t _ hb
theorem rZ (W:World) (nB:Nat) (X:Array Value):Only (fun b=>b=nB) W (W.setRow nB X):=⟨rfl,rfl,rfl,by simp [World.setRow],fun k hk hn=>Go.setRow_other _ _ _ _ hn⟩
theorem Oi (n:Nat):madeCells #[.int .i64 0] n=rowOf n (tJ 0):=by
 apply Array.ext
 ·simp [rowOf,size_madeCells]
 ·intro i h1 h2
  simp [madeCells,rowOf,tJ,Nat.mod_one]
theorem Dc (b n:Nat) (w:World) (h0:0 < n) (hn:n≤100000) (hx:w.cell? ⟨b,0,none⟩=some (.int .i64 (-1))):
  Calls Tryz.prog 93 #[.slice (some ⟨b,0,none⟩) 1 1,.int .i64 (n:Int)] w fun e w'=>e=.returned (.slice (some ⟨w.heap.size,0,none⟩) n n)∧w'.heap[w.heap.size]?=some (.cells (rowOf n (fun _=>.int .i64 (-1))) 3 (0,0))∧Only (fun _=>False) w w':=by
 have hmk:=fun (w:World)=>run_make_row' (P:=Tryz.prog) 28 3 (.int .i64 0) 8 Tryz.underlying28 kH rfl .i64 .i64 n (by omega) (by omega) w
 have lb:=World.block_lt_of_cell? w _ hx
 have hA:(w.alloc (.cells (madeCells #[.int .i64 0] n) 3)).heap[w.heap.size]?=some (.cells (rowOf n (tJ 0)) 3 (0,0)):=by rw [heap_alloc_new,Oi]
 have hx':(w.alloc (.cells (madeCells #[.int .i64 0] n) 3)).cell? ⟨b,0,none⟩=some (.int .i64 (-1)):=(World.cell?_of_block (a:=⟨b,0,none⟩) (Below.heap_alloc _ _ _ lb)).trans hx
 have hcp:=KR (w.alloc (.cells (madeCells #[.int .i64 0] n) 3)) w.heap.size n b h0 hx' hA
 have t0:decide ((n:Int) < 0)=false:=decide_eq_false (by omega)
 have e1:IntKind.u64.wrap (n:Int)=(n:Int):=by rw [IntKind.wrap_u64];omega
 have e2:decide ((9223372036854775807:Int) <(n:Int))=false:=decide_eq_false (by omega)
 obtain⟨W,hW⟩:∃W,W=(w.alloc (.cells (madeCells #[.int .i64 0] n) 3)).setRow w.heap.size (rowOf n (tJ 1)):=⟨_,rfl⟩
 have HW:Hid (W.heap[w.heap.size]?=some (.cells (rowOf n (tJ 1)) 3 (0,0))∧Only (fun _=>False) w W):=by
  rw [hW]
  refine⟨uK hA,?_⟩
  exact (((Only.refl (fun b=>b=w.heap.size) w).alloc _).trans (rZ _ _ _)).old (fun g hg=>Or.inl (by omega))
 rw [←hW] at hcp
 clear hW hA hx'
 go_enter Tryz.func93,Tryz.ntmps93
 go_wp2_with (go_at_call 113;refine (mul_one n _ hn).mono ?_;rintro e w' ⟨rfl,rfl⟩)
 clear hcp hmk
 go_loopg [8] n (fun gh v wr=>∃(k:Nat) (V:World),V=wr∧gh=n+1 - k∧0 < k∧k≤n∧v=.int .i64 (k:Int)∧V.heap[w.heap.size]?=some (.cells (rowOf n (tJ k)) 3 (0,0))∧Only (fun _=>False) w V)
 case atStart=>exact⟨1,_,rfl,by omega,by omega,by omega,rfl,HW.out.1,HW.out.2⟩
 case round=>
  obtain⟨k,V,hV,rfl,hk0,hk,rfl,hb,ho⟩:=hrel
  subst hV
  have HV:Hid (V.heap[w.heap.size]?=some (.cells (rowOf n (tJ k)) 3 (0,0))∧Only (fun _=>False) w V):=⟨hb,ho⟩
  have lV:=(Array.getElem?_eq_some_iff.1 hb).1
  clear hb ho
  by_cases hlt:k < n
  ·have t1:(k:Int) <(n:Int):=by omega
   obtain⟨q,hq⟩:∃q,q=Nat.min k (n - k):=⟨_,rfl⟩
   have hq1:q≤k:=by rw [hq];exact Nat.min_le_left _ _
   have hq2:q≤n - k:=by rw [hq];exact Nat.min_le_right _ _
   have hq3:0 < q:=by rw [hq];simp [Nat.min_def];split <;> omega
   have hcp:=Sw V.drew w.heap.size n k q hk hk0 hq HV.out.1
   clear hq
   go_wp2_with fail
   go_region
   all_goals
    go_wp2_with fail
    go_roundg (n+1 -(k+q))
    case measure=>omega
    case rel=>
     refine⟨k+q,_,rfl,rfl,by omega,by omega,by go_num,?_,?_⟩
     ·exact uK HV.out.1
     ·exact (((HV.out.2.mono (S':=fun b=>b=w.heap.size) (fun _ h=>h.elim)).drew).trans (rZ _ _ _)).old (fun g hg=>Or.inl (by omega))
  ·have t2:decide ((k:Int) <(n:Int))=false:=decide_eq_false (by omega)
   obtain rfl:k=n:=by omega
   go_wp2_with fail
   go_ret
   refine⟨rfl,?_,HV.out.2⟩
   rw [HV.out.1]
   congr 2
   unfold rowOf
   congr 1
   exact List.map_congr_left (fun i hi=>by unfold tJ;rw [if_pos (List.mem_range.1 hi)])
end Go.Proofs.YtdlabakleldgaaaGreatDoor.L
