/- LLw Sk0 Sg6 Sg13 -/
import Derived.Test.YtdlabakleldgaaaGreatDoorZ23
import Derived.Test.YtdlabakleldgaaaGreatDoorZ25
import Derived.Test.YtdlabakleldgaaaGreatDoorZ35
import Derived.Test.YtdlabakleldgaaaGreatDoorZ00
import Derived.Test.YtdlabakleldgaaaGreatDoorZ36
import Derived.Test.YtdlabakleldgaaaGreatDoorZ26
import Derived.Laws.OwnMore
import Derived.Test.YtdlabakleldgaaaGreatDoorZ37
set_option linter.unusedVariables false
set_option linter.unusedSimpArgs false
set_option maxRecDepth 100000
set_option maxHeartbeats 8000000
namespace Go.Proofs.YtdlabakleldgaaaGreatDoor.L
namespace Hm
def dR (rows:List (List Nat)) (s c:Nat):Nat:=(rows[s]?.getD [])[c]?.getD 0
def oR (outs:List Nat) (s:Nat):Nat:=outs[s]?.getD 0
structure Ok (rows:List (List Nat)) (outs:List Nat) (k:Nat):Prop where
 pos:0 < rows.length
 mK:outs.length=rows.length
 WL:∀(i:Nat) (row:List Nat),rows[i]?=some row→row.length=k
 lt:∀(i:Nat) (row:List Nat),rows[i]?=some row→∀x∈row,x < rows.length
theorem Ok.d {rows:List (List Nat)} {outs:List Nat} {k:Nat} (h:Ok rows outs k) {s c:Nat} (hs:s < rows.length) (hc:c < k):∃row x,rows[s]?=some row∧row[c]?=some x∧dR rows s c=x∧x < rows.length:=by
 have e:rows[s]?=some (rows[s]'hs):=List.getElem?_eq_getElem hs
 have hl:=h.WL s _ e
 have e2:(rows[s]'hs)[c]?=some ((rows[s]'hs)[c]'(by omega)):=List.getElem?_eq_getElem _
 exact⟨_,_,e,e2,by unfold dR;rw [e];show (rows[s]'hs)[c]?.getD 0=_;rw [e2];rfl,h.lt s _ e _ (List.getElem_mem _)⟩
theorem Ok.dlt {rows:List (List Nat)} {outs:List Nat} {k:Nat} (h:Ok rows outs k):∀s c,s < rows.length→c < k→dR rows s c < rows.length:=fun s c hs hc=>by
 obtain⟨row,x,_,_,e,hx⟩:=h.d hs hc
 rw [e];exact hx
theorem Ok.o {rows:List (List Nat)} {outs:List Nat} {k:Nat} (h:Ok rows outs k) {s:Nat} (hs:s < rows.length):outs[s]?=some (oR outs s):=by
 unfold oR
 have e:outs[s]?=some (outs[s]'(by rw [h.mK];exact hs)):=List.getElem?_eq_getElem _
 rw [e];rfl
theorem Ok.fold {rows:List (List Nat)} {outs:List Nat} {k:Nat} (h:Ok rows outs k):∀(w:List Nat),(∀c∈w,c < k)→∀s,s < rows.length→w.foldl (dR rows) s < rows.length
 | [],_,s,hs=>hs
 | c::w,hw,s,hs=>Ok.fold h w (fun x hx=>hw x (by simp [hx])) _ (h.dlt s c hs (hw c (by simp)))
theorem iq.ok {n k:Nat} {d:Nat→Nat→Nat} {o:Nat→Nat} {rows:List (List Nat)} {outs r:List Nat} (h:iq n k d o rows outs r):Ok rows outs k:=by
 have h0:=(List.getElem?_eq_some_iff.1 h.zero).1
 have hl:=h.len
 have key:∀(i:Nat) (row:List Nat),rows[i]?=some row→∃s,r[i]?=some s∧row.length=k∧∀c j:Nat,row[c]?=some j→∃t,r[j]?=some t∧yB k d o t (d s c):=fun i row hr=>by
  have hi:=(List.getElem?_eq_some_iff.1 hr).1
  have e:r[i]?=some (r[i]'(by omega)):=List.getElem?_eq_getElem _
  obtain⟨row',e1,e2,e3⟩:=h.row i _ e
  rw [hr] at e1
  injection e1 with e1
  subst e1
  exact⟨_,e,e2,e3⟩
 refine⟨by omega,h.mK,fun i row hr=>?_,fun i row hr x hx=>?_⟩
 ·obtain⟨s,_,e,_⟩:=key i row hr
  exact e
 ·obtain⟨s,_,_,e⟩:=key i row hr
  obtain⟨c,hc⟩:=List.getElem?_of_mem hx
  obtain⟨t,ht,_⟩:=e c x hc
  have:=(List.getElem?_eq_some_iff.1 ht).1
  omega
theorem iq.from {n k:Nat} {d:Nat→Nat→Nat} {o:Nat→Nat} {rows:List (List Nat)} {outs r:List Nat} (h:iq n k d o rows outs r):∀(w:List Nat),(∀c∈w,c < k)→∀i s,r[i]?=some s→o (w.foldl d s)=oR outs (w.foldl (dR rows) i)
 | [],_,i,s,hs=>by
  have:=(h.st i s hs).2
  unfold oR
  show o s=outs[i]?.getD 0
  rw [this];rfl
 | c::w,hw,i,s,hs=>by
  obtain⟨row,e1,e2,e3⟩:=h.row i s hs
  have hck:=hw c (by simp)
  have e4:row[c]?=some (row[c]'(by omega)):=List.getElem?_eq_getElem _
  obtain⟨t,ht,he⟩:=e3 c _ e4
  have hd:dR rows i c=row[c]'(by omega):=by unfold dR;rw [e1];show row[c]?.getD 0=_;rw [e4];rfl
  show o (w.foldl d (d s c))=oR outs (w.foldl (dR rows) (dR rows i c))
  rw [hd,←iq.from h w (fun x hx=>hw x (by simp [hx])) _ t ht]
  exact (he w (fun x hx=>hw x (by simp [hx]))).symm
end Hm
end Go.Proofs.YtdlabakleldgaaaGreatDoor.L
namespace Go.Proofs.YtdlabakleldgaaaGreatDoor
open Rl (Ex)
open Au
theorem rq (nx:List (List Nat)):∀(C:List Int) (s k:Nat),k≤C.length→(s::runs nx s C)[k]?=some (((C.take k).map Int.toNat).foldl (dX nx) s)
 | C,s,0,_=>rfl
 | [],s,k+1,h=>by simp at h
 | c::C,s,k+1,h=>by
  have ih:=rq nx C (dX nx s c.toNat) k (by simpa using h)
  exact ih
theorem G7 {nx:List (List Nat)} {C:List Int} {s k t:Nat} (h:(s::runs nx s C)[k]?=some t):k≤C.length∧t=((C.take k).map Int.toNat).foldl (dX nx) s:=by
 have hk:=(List.getElem?_eq_some_iff.1 h).1
 rw [List.length_cons,pV] at hk
 refine⟨by omega,?_⟩
 rw [rq nx C s k (by omega)] at h
 injection h with h
 exact h.symm
end Go.Proofs.YtdlabakleldgaaaGreatDoor
namespace Go.Proofs.YtdlabakleldgaaaGreatDoor
open Go.RowKit Go.Maps
def EZ (l:List Int) (i:Nat):List Int:=l.mapIdx (fun j x=>if j < i∨l.length - i≤j then l[l.length - 1 - j]?.getD 0 else x)
theorem mq (l:List Int) (i:Nat):(EZ l i).length=l.length:=by simp [EZ]
theorem ry (l:List Int) (i j:Nat) (h:j < l.length):(EZ l i)[j]?=some (if j < i∨l.length - i≤j then l[l.length - 1 - j]?.getD 0 else l[j]):=by
 unfold EZ
 rw [List.getElem?_mapIdx,List.getElem?_eq_getElem h]
 rfl
theorem Li (l:List Int):EZ l 0=l:=by
 apply List.ext_getElem?
 intro j
 by_cases h:j < l.length
 ·rw [ry l 0 j h,if_neg (by omega),List.getElem?_eq_getElem h]
 ·rw [List.getElem?_eq_none (by rw [mq];omega),List.getElem?_eq_none (by omega)]
theorem Lj (l:List Int) (i:Nat) (h:l.length≤2*i+1):EZ l i=l.reverse:=by
 apply List.ext_getElem?
 intro j
 by_cases hj:j < l.length
 ·rw [ry l i j hj,List.getElem?_reverse hj,List.getElem?_eq_getElem (by omega)]
  by_cases c:j < i∨l.length - i≤j
  ·rw [if_pos c]
   rfl
  ·rw [if_neg c]
   congr 1
   congr 1
   omega
 ·rw [List.getElem?_eq_none (by rw [mq];omega),List.getElem?_eq_none (by simp;omega)]
theorem Ll (l:List Int) (i:Nat) (h:2*i+1 < l.length) (x y:Int) (hx:l[i]?=some x) (hy:l[l.length - 1 - i]?=some y):((EZ l i).set i y).set (l.length - 1 - i) x=EZ l (i+1):=by
 apply List.ext_getElem?
 intro j
 by_cases hj:j < l.length
 ·rw [ry l (i+1) j hj]
  by_cases e1:j=l.length - 1 - i
  ·subst e1
   rw [List.getElem?_set_self (by rw [List.length_set,mq];exact hj),if_pos (by omega),show l.length - 1 -(l.length - 1 - i)=i by omega,hx]
   rfl
  ·rw [List.getElem?_set_ne (fun e=>e1 e.symm)]
   by_cases e2:j=i
   ·subst e2
    rw [List.getElem?_set_self (by rw [mq];exact hj),if_pos (by omega),hy]
    rfl
   ·rw [List.getElem?_set_ne (fun e=>e2 e.symm),ry l i j hj]
    by_cases c:j < i∨l.length - i≤j
    ·rw [if_pos c,if_pos (by omega)]
    ·rw [if_neg c,if_neg (by omega)]
 ·rw [List.getElem?_eq_none (by rw [List.length_set,List.length_set,mq];omega),List.getElem?_eq_none (by rw [mq];omega)]
theorem A_ (l:List Int) (g cap:Nat) (lo:Nat) (w:World) (hO:w.ownsRow lo 3 1 (.slice (some ⟨g,0,none⟩) l.length cap) l.length (ints l)) (hn:l.length≤1000):
  Calls Tryz.prog 27 #[.slice (some ⟨g,0,none⟩) l.length cap] w fun e w'=>e=.returned (.tuple #[])∧w'.ownsRow lo 3 1 (.slice (some ⟨g,0,none⟩) l.length cap) l.length (ints l.reverse)∧Only (·=g) w w':=by
 have HO:Hid _:=hO
 obtain⟨n,hnl⟩:∃n,n=l.length:=⟨_,rfl⟩
 have jZ:=zH hnl
 rw [←hnl] at hn ⊢
 clear hO hnl
 go_enter Tryz.func27,Tryz.ntmps27
 go_wp2_with fail
 go_loopg [2,3] n (fun gh v u wr=>∃(k:Nat) (W:World),W=wr∧gh=n - k∧2*k≤n+1∧v=.int .i64 (k:Int)∧u=.int .i64 ((n:Int) - 1 -(k:Int))∧W.ownsRow lo 3 1 (.slice (some ⟨g,0,none⟩) n cap) n (ints (EZ l k))∧Only (·=g) w W)
 case atStart=>
  refine⟨0,_,rfl,rfl,by omega,rfl,by go_num,?_,Only.refl _ _⟩
  rw [Li,jZ.out]
  exact HO.out
 case round=>
  obtain⟨k,W,hW,rfl,hk,rfl,rfl,hown,ho⟩:=hrel
  subst hW
  have HOW:=zH hown
  have HOr:=zH ho
  by_cases hlt:2*k+1 < n
  ·obtain⟨m,hm⟩:∃m:Nat,(n:Int) - 1 -(k:Int)=(m:Int):=⟨n - 1 - k,by omega⟩
   rw [hm]
   have IA:m=n - 1 - k:=by omega
   have EG:Hid ((n:Int) - 1 -((k+1:Nat):Int)=(m:Int) - 1):=by
    show _=_
    omega
   have g_:m < n:=by omega
   have hkl:k < n:=by omega
   have t0:(m:Int) <(n:Int):=by omega
   have t1:(k:Int) <(m:Int):=by omega
   have t2:(k:Int) <(n:Int):=by omega
   obtain⟨x,hx⟩:∃x,l[k]?=some x:=⟨_,List.getElem?_eq_getElem (by rw [←jZ.out];exact hkl)⟩
   obtain⟨y,hy⟩:∃y,l[l.length - 1 - k]?=some y:=⟨_,List.getElem?_eq_getElem (by rw [←jZ.out];omega)⟩
   have Uv:Hid (((EZ l k).set k y).set m x=EZ l (k+1)):=by
    have:=Ll l k (by rw [←jZ.out];exact hlt) x y hx hy
    rw [←jZ.out,←IA] at this
    exact this
   have gx:(EZ l k)[k]?=some x:=by
    rw [ry l k k (by rw [←jZ.out];exact hkl),if_neg (by rw [←jZ.out];omega),←List.getElem?_eq_getElem (by rw [←jZ.out];exact hkl),hx]
   have gy:(EZ l k)[m]?=some y:=by
    have hl:=(List.getElem?_eq_some_iff.1 hy)
    rw [ry l k m (by rw [←jZ.out];exact g_),if_neg (by rw [←jZ.out];omega),←List.getElem?_eq_getElem (by rw [←jZ.out];exact g_),IA,jZ.out,hy]
   have c1:W.cell? ⟨g,k,none⟩=some (.int .i64 x):=by
    rw [hown.cellAt k (by omega)]
    unfold ints
    rw [List.getElem?_map,gx]
    rfl
   have c2:W.cell? ⟨g,m,none⟩=some (.int .i64 y):=by
    rw [hown.cellAt m (by omega)]
    unfold ints
    rw [List.getElem?_map,gy]
    rfl
   have f1:∀z,W.frozen? ⟨g,z,none⟩=false:=fun z=>hown.frozenAt z
   have hs:=L.fP hown k (by omega) (.int .i64 y)
   have HS2:Hid (((W.setCell ⟨g,k,none⟩ (.int .i64 y)).setCell ⟨g,m,none⟩ (.int .i64 x)).ownsRow lo 3 1 (.slice (some ⟨g,0,none⟩) n cap) n (ints (EZ l (k+1)))):=by
    have:=L.fP hs m (by omega) (.int .i64 x)
    unfold ints at this ⊢
    rw [←Uv.out,List.map_set,List.map_set]
    exact this
   have c3:(W.setCell ⟨g,k,none⟩ (.int .i64 y)).cell? ⟨g,m,none⟩=some (.int .i64 y):=by
    rw [hs.cellAt m (by omega)]
    unfold ints
    rw [List.getElem?_set_ne (by omega),List.getElem?_map,gy]
    rfl
   have f2:∀z,(W.setCell ⟨g,k,none⟩ (.int .i64 y)).frozen? ⟨g,z,none⟩=false:=fun z=>hs.frozenAt z
   have lg:g < W.heap.size:=World.block_lt_of_cell? W _ c1
   clear hown ho hs gx gy hx hy IA
   go_wp2_with fail
   go_region
   all_goals
    go_wp2_with fail
    go_roundg (n -(k+1))
    case measure=>omega
    case rel=>
     refine⟨k+1,_,rfl,rfl,by omega,by go_num,?_,?_,?_⟩
     ·rw [EG.out]
     ·exact HS2.out
     ·exact ((HOr.out.setCell (p:=⟨g,k,none⟩) rfl _).setCell (p:=⟨g,m,none⟩) rfl _).drew
  ·have t2:decide ((k:Int) <(n:Int) - 1 -(k:Int))=false:=decide_eq_false (by omega)
   clear hown ho
   go_wp2_with fail
   go_end0
   refine⟨rfl,?_,HOr.out⟩
   have:=HOW.out
   rw [Lj l k (by rw [←jZ.out];omega)] at this
   exact this
end Go.Proofs.YtdlabakleldgaaaGreatDoor
namespace Go.Proofs.YtdlabakleldgaaaGreatDoor
open Go.RowKit Go.Maps
open Rl (Ex)
theorem xw (l:List Nat):L.iO l=ints (l.map (fun (t:Nat)=>(t:Int))):=by
 unfold L.iO ints
 rw [List.map_map]
 rfl
theorem OJ {l:List Int} (h:∀c∈l,0≤c):(l.map Int.toNat).map (fun (t:Nat)=>(t:Int))=l:=by
 rw [List.map_map]
 conv=>rhs;rw [←List.map_id l]
 exact List.map_congr_left (fun c hc=>by have:=h c hc;simp only [Function.comp,id];omega)
def wyV (r:Value) (l:List Nat):Wy:=match r with
 | .slice a n c=>⟨a,n,c,l.map (fun (t:Nat)=>(t:Int))⟩
 | _=>⟨none,l.length,0,l.map (fun (t:Nat)=>(t:Int))⟩
theorem Lm {w:World} {lo k:Nat} {vX vO:Value} {rows:List (List Nat)} {outs:List Nat} (h:L.Ra w lo (.agg #[vX,vO]) rows outs) (ho:L.Hm.Ok rows outs k) (hk:k≤24):
  ∃aN cN gO cO ws,vX=.slice aN rows.length cN∧vO=.slice (some ⟨gO,0,none⟩) outs.length cO∧Nw w aN rows.length ws∧rows.length≤maxLen∧outs.length≤maxLen∧(∀(s:Nat) (L:List Nat),rows[s]?=some L→∃y,ws[s]?=some y∧y.n=k∧y.L=L.map (fun (t:Nat)=>(t:Int)))∧gO < w.heap.size∧∀(s x:Nat),outs[s]?=some x→w.cell? ⟨gO,s,none⟩=some (.int .u32 (x:Int)):=by
 obtain⟨vX',vO',rs,e,h2,h3,h4,h5⟩:=h
 simp only [Value.agg.injEq,Array.mk.injEq,List.cons.injEq,and_true] at e
 obtain⟨rfl,rfl⟩:=e
 have hp:=ho.pos
 obtain⟨g,cap,rfl,hg,hm,hc⟩:=L.bU h3 (by omega)
 obtain⟨g',cap',rfl,hg',hm',hc'⟩:=L.bU h5 (by rw [ho.mK];exact hp)
 have key:∀(j:Nat) (r:Value),rs[j]?=some r→∃l a c,rows[j]?=some l∧l.length=k∧r=.slice a k c∧w.ownsRow lo 3 1 (.slice a k c) k (L.iO l):=fun j r hr=>by
  have hj:=(List.getElem?_eq_some_iff.1 hr).1
  have e:rows[j]?=some (rows[j]'(by omega)):=List.getElem?_eq_getElem _
  have hl:=ho.WL j _ e
  have h6:=h4 j r _ hr e
  rw [hl] at h6
  obtain⟨a,c,rfl⟩:=L.ah h6
  exact⟨_,a,c,e,hl,rfl,h6⟩
 refine⟨some ⟨g,0,none⟩,cap,g',cap',(rs.zip rows).map (fun p=>wyV p.1 p.2),by rw [h2],rfl,⟨by simp [h2],g,0,fun _=>⟨rfl,hg⟩,fun j x hj=>?_⟩,by omega,hm',fun s l hl=>?_,hg',fun s x hx=>hc' s (L.jw x) (by rw [List.getElem?_map,hx];rfl)⟩
 ·rw [List.getElem?_map] at hj
  cases hz:(rs.zip rows)[j]? with
  | none=>rw [hz] at hj;cases hj
  | some p=>
   rw [hz] at hj
   injection hj with hj
   subst hj
   obtain⟨r,l⟩:=p
   obtain⟨z1,z2⟩:=List.getElem?_zip_eq_some.1 hz
   obtain⟨l',a,c,q1,q2,rfl,q3⟩:=key j r z1
   have q4:=z2.symm.trans q1
   injection q4 with q4
   subst q4
   rw [xw] at q3
   refine⟨?_,?_,?_⟩
   ·exact oq q3 (by show k=(l.map _).length;rw [List.length_map];exact q2.symm)
   ·show k≤maxLen
    unfold maxLen;omega
   ·rw [Nat.zero_add]
    exact hc j _ z1
 ·have hs:=(List.getElem?_eq_some_iff.1 hl).1
  have e:rs[s]?=some (rs[s]'(by omega)):=List.getElem?_eq_getElem _
  obtain⟨l',a,c,q1,q2,q3,_⟩:=key s _ e
  have q4:=hl.symm.trans q1
  injection q4 with q4
  subst q4
  rw [q3] at e
  exact⟨wyV (.slice a k c) l,by rw [List.getElem?_map,List.getElem?_zip_eq_some (z:=(Value.slice a k c,l)) |>.2 ⟨e,hl⟩];rfl,rfl,rfl⟩
theorem Ba {ws:List Wy} {nx:List (List Nat)} {cl:Nat} (h1:∀(s:Nat) (L:List Nat),nx[s]?=some L→∃y,ws[s]?=some y∧y.n=cl∧y.L=L.map (fun (t:Nat)=>(t:Int)))
  (h2:∀s,s < nx.length→∃w,nx[s]?=some w∧∀c,c < cl→∃t,w[c]?=some t∧t < nx.length):∀(C:List Int) (s:Nat),s < nx.length→(∀c∈C,0≤c∧c <(cl:Int))→run ws (s:Int) C=(Au.runs nx s C).map (fun (t:Nat)=>(t:Int))
 | [],s,hs,hC=>by simp [run,Au.runs]
 | c::cs,s,hs,hC=>by
  obtain⟨w,hw,hk⟩:=h2 s hs
  obtain⟨y,hy,hyn,hyL⟩:=h1 s w hw
  have hc:=hC c (by simp)
  obtain⟨t,ht,htl⟩:=hk c.toNat (by omega)
  have NM:wy ws (s:Int)=y:=by
   unfold wy
   rw [if_pos (by omega),Int.toNat_natCast,hy]
   rfl
  have e1:(((nx[s]?.getD [])[c.toNat]?).getD 0)=t:=by rw [hw,Option.getD_some,ht,Option.getD_some]
  have e2:(y.L[c.toNat]?).getD 0=(t:Int):=by rw [hyL,List.getElem?_map,ht];rfl
  unfold run Au.runs
  rw [NM,if_pos (by rw [hyn];exact hc),e1,e2,List.map_cons,Ba h1 h2 cs t htl (fun c h=>hC c (by simp [h]))]
theorem OL {rows:List (List Nat)} {outs:List Nat} {k:Nat} (h:L.Hm.Ok rows outs k):∀s,s < rows.length→∃w,rows[s]?=some w∧∀c,c < k→∃t,w[c]?=some t∧t < rows.length:=fun s hs=>by
 refine⟨_,List.getElem?_eq_getElem hs,fun c hc=>?_⟩
 obtain⟨row,x,e1,e2,_,e3⟩:=h.d hs hc
 rw [List.getElem?_eq_getElem hs] at e1
 injection e1 with e1
 rw [e1]
 exact⟨x,e2,e3⟩
theorem Bb {w:World} {lo k:Nat} {vX vO:Value} {rows:List (List Nat)} {outs:List Nat} (h:L.Ra w lo (.agg #[vX,vO]) rows outs) (ho:L.Hm.Ok rows outs k) (hk:k≤24) (aC:Option Addr) (nC cC:Nat) (C:List Int) (hC:Iw w aC nC C) (JV:nC≤1000000) (hin:∀c∈C,0≤c∧c <(k:Int)):
  Calls Tryz.prog 28 #[.agg #[vX,vO],.slice aC nC cC] w fun e w'=>∃g cp,e=.returned (.slice (some ⟨g,0,none⟩) (nC+1) cp)∧w.heap.size≤g∧g < w'.heap.size∧(∀(j x:Nat),(0::Au.runs rows 0 C)[j]?=some x→w'.cell? ⟨g,j,none⟩=some (.int .i64 (x:Int)))∧Only (fun _=>False) w w':=by
 obtain⟨aN,cN,gO,cO,ws,rfl,rfl,hN,hm,_,hws,_,_⟩:=Lm h ho hk
 have e:=Ba hws (OL ho) C 0 ho.pos hin
 refine Calls.mono (NH aN rows.length cN (some ⟨gO,0,none⟩) outs.length cO ws aC nC cC C w hN hm ho.pos hC JV) ?_
 rintro e2 w' ⟨v,rfl,hown,BM⟩
 rw [show run ws 0 C=_ from e,List.length_map,Au.pV,hC.1] at hown
 obtain⟨g,cp,rfl,hg,_,hc⟩:=L.bU hown (by omega)
 have hb:w.heap.size+1≤g:=(L.bz hown rfl).1
 refine⟨g,cp,rfl,by omega,hg,fun j x hx=>hc j _ ?_,BM⟩
 unfold ints
 rw [show (0:Int)::(Au.runs rows 0 C).map (fun (t:Nat)=>(t:Int))=(0::Au.runs rows 0 C).map (fun (t:Nat)=>(t:Int)) by rfl,List.getElem?_map,List.getElem?_map,hx]
 rfl
end Go.Proofs.YtdlabakleldgaaaGreatDoor
