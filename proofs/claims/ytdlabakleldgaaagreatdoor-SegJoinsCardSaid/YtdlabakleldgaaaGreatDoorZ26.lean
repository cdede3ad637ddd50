/- LPm LMs -/
import Derived.Test.YtdlabakleldgaaaGreatDoorZ23
import Derived.Test.YtdlabakleldgaaaGreatDoorZ25
set_option linter.unusedVariables false
set_option linter.unusedSimpArgs false
set_option maxRecDepth 100000
set_option maxHeartbeats 8000000
namespace Go.Proofs.YtdlabakleldgaaaGreatDoor.L
namespace Hm
structure Pi (n:Nat) (row at' of:List Nat) (ls:List (Nat × Nat × Nat)) (T:Nat→Prop):Prop where
 rl:row.length=n
 al:at'.length=n
 ol:of.length=n
 ra:∀p s:Nat,row[p]?=some s→s < n∧at'[s]?=some p
 ar:∀s p:Nat,at'[s]?=some p→row[p]?=some s
 C9:∀s g:Nat,of[s]?=some g→∃f t d p,ls[g]?=some (f,t,d)∧at'[s]?=some p∧f≤p∧p < t
 sO:∀(g f t d:Nat),ls[g]?=some (f,t,d)→f < t∧t≤n∧f+d≤t∧∀p s:Nat,f≤p→p < t→row[p]?=some s→of[s]?=some g∧(0 < d→(p < f+d↔T s))∧(d=0→∀p' s':Nat,f≤p'→p' < t→row[p']?=some s'→(T s↔T s'))
theorem Pi.find {n:Nat} {row at' of:List Nat} {ls:List (Nat × Nat × Nat)} {T:Nat→Prop} (h:Pi n row at' of ls T) {s:Nat} (hs:s < n):∃g f t d p,of[s]?=some g∧ls[g]?=some (f,t,d)∧at'[s]?=some p∧row[p]?=some s∧f≤p∧p < t∧t≤n∧f+d≤t:=by
 obtain⟨g,hg⟩:∃g,of[s]?=some g:=⟨_,List.getElem?_eq_getElem (by have:=h.ol;omega)⟩
 obtain⟨f,t,d,p,h1,h2,h3,h4⟩:=h.C9 s g hg
 obtain⟨a,b,c,_⟩:=h.sO g f t d h1
 exact⟨g,f,t,d,p,hg,h1,h2,h.ar s p h2,h3,h4,b,c⟩
structure Pt (n:Nat) (row at' of:List Nat) (ls:List (Nat × Nat × Nat)) (T:Nat→Prop):Prop where
 rl:row.length=n
 al:at'.length=n
 ol:of.length=n
 ra:∀p s:Nat,row[p]?=some s→s < n∧at'[s]?=some p
 ar:∀s p:Nat,at'[s]?=some p→row[p]?=some s
 C9:∀s g:Nat,of[s]?=some g→∃f t d p,ls[g]?=some (f,t,d)∧at'[s]?=some p∧f≤p∧p < t
 sO:∀(g f t d:Nat),ls[g]?=some (f,t,d)→f < t∧t≤n∧f+d≤t∧∀p s:Nat,f≤p→p < t→row[p]?=some s→of[s]?=some g∧(p < f+d↔T s)
theorem Pt.find {n:Nat} {row at' of:List Nat} {ls:List (Nat × Nat × Nat)} {T:Nat→Prop} (h:Pt n row at' of ls T) {s:Nat} (hs:s < n):∃g f t d p,of[s]?=some g∧ls[g]?=some (f,t,d)∧at'[s]?=some p∧row[p]?=some s∧f≤p∧p < t∧t≤n∧f+d≤t∧(p < f+d↔T s):=by
 obtain⟨g,hg⟩:∃g,of[s]?=some g:=⟨_,List.getElem?_eq_getElem (by have:=h.ol;omega)⟩
 obtain⟨f,t,d,p,h1,h2,h3,h4⟩:=h.C9 s g hg
 obtain⟨a,b,c,e⟩:=h.sO g f t d h1
 exact⟨g,f,t,d,p,hg,h1,h2,h.ar s p h2,h3,h4,b,c,(e p s h3 h4 (h.ar s p h2)).2⟩
theorem mh {l:List Nat} {i j x:Nat} (h:i < l.length):(l.set i x)[j]?=if i=j then some x else l[j]?:=by
 rw [List.getElem?_set]
 split
 ·first | rfl | rw [if_pos h]
 ·rfl
theorem Pt.tell {n:Nat} {row at' of:List Nat} {ls:List (Nat × Nat × Nat)} {T:Nat→Prop} (h:Pt n row at' of ls T) {s g f t d p u:Nat} (hs:s < n) (hg:of[s]?=some g) (hl:ls[g]?=some (f,t,d)) (hp:at'[s]?=some p) (hu:row[f+d]?=some u) (hT:¬ T s):
  Pt n ((row.set p u).set (f+d) s) ((at'.set s (f+d)).set u p) of (ls.set g (f,t,d+1)) (fun x=>T x∨x=s):=by
 have rl:=h.rl
 have al:=h.al
 have C_:=h.ar s p hp
 have pl:=(List.getElem?_eq_some_iff.1 C_).1
 have ql:=(List.getElem?_eq_some_iff.1 hu).1
 obtain⟨un,Yb⟩:=h.ra _ _ hu
 obtain⟨f',t',d',p',a1,a2,a3,a4⟩:=h.C9 s g hg
 rw [hl] at a1
 injection a1 with a1
 simp only [Prod.mk.injEq] at a1
 obtain⟨rfl,rfl,rfl⟩:=a1
 rw [hp] at a2
 injection a2 with a2
 subst a2
 obtain⟨b1,b2,b3,b4⟩:=h.sO g f t d hl
 have hge:f+d≤p:=by
  have:=(b4 p s a3 a4 C_).2
  by_cases e:p < f+d
  ·exact absurd (this.1 e) hT
  ·omega
 have hrow:∀x:Nat,((row.set p u).set (f+d) s)[x]?=if f+d=x then some s else if p=x then some u else row[x]?:=fun x=>by
  rw [mh (by rw [List.length_set];omega),mh (by omega)]
 have hat:∀x:Nat,((at'.set s (f+d)).set u p)[x]?=if u=x then some p else if s=x then some (f+d) else at'[x]?:=fun x=>by
  rw [mh (by rw [List.length_set];omega),mh (by omega)]
 have inj:∀x y z:Nat,row[x]?=some z→row[y]?=some z→x=y:=fun x y z e1 e2=>by
  have h1:=(h.ra x z e1).2
  have h2:=(h.ra y z e2).2
  rw [h1] at h2
  injection h2
 have hsu:f+d=p↔s=u:=by
  constructor
  ·intro e
   rw [←e,hu] at C_
   injection C_ with C_
   exact C_.symm
  ·intro e
   exact inj _ _ s (by rw [e];exact hu) C_
 have ra':∀x z:Nat,((row.set p u).set (f+d) s)[x]?=some z→z < n∧((at'.set s (f+d)).set u p)[z]?=some x:=fun x z hx=>by
  rw [hrow] at hx
  rw [hat]
  split at hx
  ·rename_i e
   injection hx with hx
   subst hx
   refine⟨hs,?_⟩
   split
   ·rename_i e2
    rw [←e,(hsu.2 e2.symm)]
   ·rw [if_pos rfl,e]
  ·rename_i e
   split at hx
   ·rename_i e2
    injection hx with hx
    subst hx
    exact⟨un,by rw [if_pos rfl,e2]⟩
   ·rename_i e2
    obtain⟨z1,z2⟩:=h.ra x z hx
    refine⟨z1,?_⟩
    have n1:u≠z:=fun e3=>e (inj _ _ z (by rw [←e3];exact hu) hx)
    have n2:s≠z:=fun e3=>e2 (inj _ _ z (by rw [←e3];exact C_) hx)
    rw [if_neg n1,if_neg n2]
    exact z2
 have ar':∀z x:Nat,((at'.set s (f+d)).set u p)[z]?=some x→((row.set p u).set (f+d) s)[x]?=some z:=fun z x hz=>by
  rw [hat] at hz
  rw [hrow]
  split at hz
  ·rename_i e
   injection hz with hz
   subst hz
   split
   ·rename_i e2
    rw [←e,hsu.1 e2]
   ·rw [if_pos rfl,e]
  ·rename_i e
   split at hz
   ·rename_i e2
    injection hz with hz
    subst hz
    rw [if_pos rfl,e2]
   ·rename_i e2
    have hzx:=h.ar z x hz
    have n1:f+d≠x:=fun e3=>e (by rw [←e3,hu] at hzx;injection hzx)
    have n2:p≠x:=fun e3=>e2 (by rw [←e3,C_] at hzx;injection hzx)
    rw [if_neg n1,if_neg n2]
    exact hzx
 have gl:=(List.getElem?_eq_some_iff.1 hl).1
 have hls:∀x:Nat,(ls.set g (f,t,d+1))[x]?=if g=x then some (f,t,d+1) else ls[x]?:=fun x=>by
  rw [List.getElem?_set]
  split
  ·first | rfl | rw [if_pos gl]
  ·rfl
 have hmid:f+d < t:=by omega
 obtain⟨og,_⟩:=b4 (f+d) u (by omega) hmid hu
 have old:∀x z:Nat,((row.set p u).set (f+d) s)[x]?=some z→∃y:Nat,row[y]?=some z∧((x=y∧x≠f+d∧x≠p)∨(x=f+d∧z=s)∨(x=p∧z=u∧x≠f+d)):=fun x z hx=>by
  rw [hrow] at hx
  split at hx
  ·rename_i e
   injection hx with hx
   subst hx
   exact⟨p,C_,Or.inr (Or.inl ⟨e.symm,rfl⟩)⟩
  ·rename_i e
   split at hx
   ·rename_i e2
    injection hx with hx
    subst hx
    exact⟨f+d,hu,Or.inr (Or.inr ⟨e2.symm,rfl,fun e3=>e e3.symm⟩)⟩
   ·rename_i e2
    exact⟨x,hx,Or.inl ⟨rfl,fun e3=>e e3.symm,fun e3=>e2 e3.symm⟩⟩
 refine⟨by simp [rl],by simp [al],h.ol,ra',ar',?_,?_⟩
 ·intro z g' hz
  obtain⟨f1,t1,d1,p1,c1,c2,c3,c4⟩:=h.C9 z g' hz
  by_cases eu:u=z
  ·subst eu
   rw [og] at hz
   injection hz with hz
   subst hz
   exact⟨f,t,d+1,p,by rw [hls,if_pos rfl],by rw [hat,if_pos rfl],a3,a4⟩
  ·by_cases es:s=z
   ·subst es
    rw [hg] at hz
    injection hz with hz
    subst hz
    exact⟨f,t,d+1,f+d,by rw [hls,if_pos rfl],by rw [hat,if_neg eu,if_pos rfl],by omega,hmid⟩
   ·by_cases eg:g=g'
    ·subst eg
     rw [hl] at c1
     injection c1 with c1
     simp only [Prod.mk.injEq] at c1
     obtain⟨rfl,rfl,rfl⟩:=c1
     exact⟨f,t,d+1,p1,by rw [hls,if_pos rfl],by rw [hat,if_neg eu,if_neg es];exact c2,c3,c4⟩
    ·exact⟨f1,t1,d1,p1,by rw [hls,if_neg eg];exact c1,by rw [hat,if_neg eu,if_neg es];exact c2,c3,c4⟩
 ·intro g' f1 t1 d1 hg1
  rw [hls] at hg1
  by_cases eg:g=g'
  ·subst eg
   rw [if_pos rfl] at hg1
   injection hg1 with hg1
   simp only [Prod.mk.injEq] at hg1
   obtain⟨rfl,rfl,rfl⟩:=hg1
   refine⟨b1,b2,by omega,fun x z h1 h2 hx=>?_⟩
   obtain⟨y,hy,hc⟩:=old x z hx
   rcases hc with ⟨rfl,n1,n2⟩ | ⟨rfl,rfl⟩ | ⟨rfl,rfl,n1⟩
   ·obtain⟨q1,q2⟩:=b4 x z h1 h2 hy
    refine⟨q1,?_⟩
    have nz:z≠s:=fun e=>n2 (inj _ _ s (by rw [←e];exact hy) C_)
    constructor
    ·intro hlt
     exact Or.inl (q2.1 (by omega))
    ·rintro (hz | hz)
     ·have:=q2.2 hz;omega
     ·exact absurd hz nz
   ·exact⟨hg,⟨fun _=>Or.inr rfl,fun _=>by omega⟩⟩
   ·obtain⟨q1,q2⟩:=b4 (f+d) z (by omega) hmid hu
    refine⟨q1,?_⟩
    constructor
    ·intro hlt
     omega
    ·rintro (hz | hz)
     ·have:=q2.2 hz;omega
     ·exact absurd (hsu.2 hz.symm) (fun e=>n1 e.symm)
  ·rw [if_neg eg] at hg1
   obtain⟨e1,e2,e3,e4⟩:=h.sO g' f1 t1 d1 hg1
   refine⟨e1,e2,e3,fun x z h1 h2 hx=>?_⟩
   obtain⟨y,hy,hc⟩:=old x z hx
   have own:∀z':Nat,row[x]?=some z'→of[z']?=some g':=fun z' hz'=>(e4 x z' h1 h2 hz').1
   have nx:∀q:Nat,row[q]?=some s∨row[q]?=some u→x≠q:=fun q hq e=>by
    subst e
    rcases hq with hq | hq
    ·have:=own s hq;rw [hg] at this;injection this with this;exact eg this
    ·have:=own u hq;rw [og] at this;injection this with this;exact eg this
   rcases hc with ⟨rfl,n1,n2⟩ | ⟨rfl,rfl⟩ | ⟨rfl,rfl,n1⟩
   ·obtain⟨q1,q2⟩:=e4 x z h1 h2 hy
    refine⟨q1,?_⟩
    have nz:z≠s:=fun e=>n2 (inj _ _ s (by rw [←e];exact hy) C_)
    rw [q2]
    exact⟨Or.inl,fun hz=>hz.elim id (fun e=>absurd e nz)⟩
   ·exact absurd rfl (nx (f+d) (Or.inr hu))
   ·exact absurd rfl (nx x (Or.inl C_))
structure P2 (n K0:Nat) (jf row at' of:List Nat) (ls:List (Nat × Nat × Nat)) (T:Nat→Prop):Prop where
 pi:Pi n row at' of ls T
 r1:∀s t a:Nat,of[s]?=some a→of[t]?=some a→jf[s]?=jf[t]?
 r2:∀s t:Nat,s < n→t < n→jf[s]?=jf[t]?→(T s↔T t)→of[s]?=of[t]?
 r3:∀s a:Nat,of[s]?=some a→jf[s]?=some a∨K0≤a
 kl:K0≤ls.length
 d0:∀(g f t d:Nat),ls[g]?=some (f,t,d)→0 < d→g < K0
theorem Pt.two {n:Nat} {row at' of:List Nat} {ls:List (Nat × Nat × Nat)} {T:Nat→Prop} (h:Pt n row at' of ls T):P2 n ls.length of row at' of ls T:=by
 refine⟨⟨h.rl,h.al,h.ol,h.ra,h.ar,h.C9,fun g f t d hg=>?_⟩,fun s t a e1 e2=>by rw [e1,e2],fun s t _ _ e _=>e,fun s a e=>Or.inl e,Nat.le_refl _,fun g f t d hg _=>(List.getElem?_eq_some_iff.1 hg).1⟩
 obtain⟨a,b,c,e⟩:=h.sO g f t d hg
 refine⟨a,b,c,fun p s h1 h2 hx=>⟨(e p s h1 h2 hx).1,fun _=>(e p s h1 h2 hx).2,fun hd p' s' h3 h4 hx'=>?_⟩⟩
 subst hd
 have q1:=(e p s h1 h2 hx).2
 have q2:=(e p' s' h3 h4 hx').2
 constructor
 ·intro hT;have:=q1.2 hT;omega
 ·intro hT;have:=q2.2 hT;omega
theorem kM {ls:List (Nat × Nat × Nat)} {g x:Nat} {v:Nat × Nat × Nat} (h:g < ls.length):(ls.set g v)[x]?=if g=x then some v else ls[x]?:=by
 rw [List.getElem?_set]
 split
 ·first | rfl | rw [if_pos h]
 ·rfl
theorem P2.whole {n K0:Nat} {jf row at' of:List Nat} {ls:List (Nat × Nat × Nat)} {T:Nat→Prop} (h:P2 n K0 jf row at' of ls T) {i f t d:Nat} (hl:ls[i]?=some (f,t,d)) (hd:0 < d) (he:f+d=t):P2 n K0 jf row at' of (ls.set i (f,t,0)) T:=by
 have il:=(List.getElem?_eq_some_iff.1 hl).1
 refine⟨⟨h.pi.rl,h.pi.al,h.pi.ol,h.pi.ra,h.pi.ar,fun s g hg=>?_,fun g f1 t1 d1 hg=>?_⟩,h.r1,h.r2,h.r3,by rw [List.length_set];exact h.kl,fun g f1 t1 d1 hg hd1=>?_⟩
 ·obtain⟨f1,t1,d1,p,h1,h2,h3,h4⟩:=h.pi.C9 s g hg
  by_cases e:i=g
  ·subst e
   rw [hl] at h1
   injection h1 with h1
   simp only [Prod.mk.injEq] at h1
   obtain⟨rfl,rfl,rfl⟩:=h1
   exact⟨f,t,0,p,by rw [kM il,if_pos rfl],h2,h3,h4⟩
  ·exact⟨f1,t1,d1,p,by rw [kM il,if_neg e];exact h1,h2,h3,h4⟩
 ·rw [kM il] at hg
  by_cases e:i=g
  ·subst e
   rw [if_pos rfl] at hg
   injection hg with hg
   simp only [Prod.mk.injEq] at hg
   obtain⟨rfl,rfl,rfl⟩:=hg
   obtain⟨a,b,c,q⟩:=h.pi.sO i f t d hl
   refine⟨a,b,by omega,fun p s h1 h2 hx=>⟨(q p s h1 h2 hx).1,fun hh=>by omega,fun _ p' s' h3 h4 hx'=>?_⟩⟩
   have q1:=(q p s h1 h2 hx).2.1 hd
   have q2:=(q p' s' h3 h4 hx').2.1 hd
   exact⟨fun _=>q2.1 (by omega),fun _=>q1.1 (by omega)⟩
  ·rw [if_neg e] at hg
   exact h.pi.sO g f1 t1 d1 hg
 ·rw [kM il] at hg
  by_cases e:i=g
  ·rw [if_pos e] at hg
   injection hg with hg
   simp only [Prod.mk.injEq] at hg
   omega
  ·rw [if_neg e] at hg
   exact h.d0 g f1 t1 d1 hg hd1
theorem P2.parted {n K0:Nat} {jf row at' of of':List Nat} {ls:List (Nat × Nat × Nat)} {T:Nat→Prop} (h:P2 n K0 jf row at' of ls T) {i f t d a b c e:Nat} (hl:ls[i]?=some (f,t,d)) (hd:0 < d) (he:f+d < t)
  (hside:(a=f∧b=f+d∧c=f+d∧e=t)∨(a=f+d∧b=t∧c=f∧e=f+d)) (hol:of'.length=n) (hof:∀p s:Nat,row[p]?=some s→of'[s]?=if c≤p∧p < e then some ls.length else of[s]?):
  P2 n K0 jf row at' of' (ls.set i (a,b,0)++[(c,e,0)]) T:=by
 have il:=(List.getElem?_eq_some_iff.1 hl).1
 obtain⟨w1,w2,w3,w4⟩:=h.pi.sO i f t d hl
 have hls:∀x:Nat,(ls.set i (a,b,0)++[(c,e,0)])[x]?=if x=ls.length then some (c,e,0) else if i=x then some (a,b,0) else ls[x]?:=fun x=>by
  by_cases hx:x < ls.length
  ·rw [List.getElem?_append_left (by rw [List.length_set];exact hx),kM il,if_neg (show ¬ x=ls.length by omega)]
  ·rw [List.getElem?_append_right (by rw [List.length_set];omega),List.length_set]
   by_cases e2:x=ls.length
   ·rw [if_pos e2,e2,Nat.sub_self];rfl
   ·rw [if_neg e2,if_neg (by omega),List.getElem?_eq_none (by simp;omega),List.getElem?_eq_none (by omega)]
 have small:∀s g:Nat,of[s]?=some g→g < ls.length:=fun s g hg=>by
  obtain⟨f1,t1,d1,p,h1,_⟩:=h.pi.C9 s g hg
  exact (List.getElem?_eq_some_iff.1 h1).1
 have pos:∀s:Nat,s < n→∃p,at'[s]?=some p∧row[p]?=some s:=fun s hs=>by
  obtain⟨g,f1,t1,d1,p,_,_,h1,h2,_⟩:=h.pi.find hs
  exact⟨p,h1,h2⟩
 have sn:∀s x:Nat,of'[s]?=some x→s < n:=fun s x hx=>by have:=(List.getElem?_eq_some_iff.1 hx).1;omega
 have VX:∀p s:Nat,row[p]?=some s→c≤p→p < e→of[s]?=some i:=fun p s hp h1 h2=>(w4 p s (by omega) (by omega) hp).1
 have Sm:∀p s:Nat,row[p]?=some s→of[s]?=some i→f≤p∧p < t:=fun p s hp ho=>by
  obtain⟨f1,t1,d1,p1,h1,h2,h3,h4⟩:=h.pi.C9 s i ho
  rw [hl] at h1
  injection h1 with h1
  simp only [Prod.mk.injEq] at h1
  obtain⟨rfl,rfl,rfl⟩:=h1
  have:=(h.pi.ra p s hp).2
  rw [h2] at this
  injection this with this
  omega
 have uni:∀p p' s s':Nat,row[p]?=some s→row[p']?=some s'→f≤p→p < t→f≤p'→p' < t→((c≤p∧p < e)↔(c≤p'∧p' < e))→(T s↔T s'):=fun p p' s s' hp hp' h1 h2 h3 h4 hh=>by
  have q1:=(w4 p s h1 h2 hp).2.1 hd
  have q2:=(w4 p' s' h3 h4 hp').2.1 hd
  rw [←q1,←q2]
  omega
 refine⟨⟨h.pi.rl,h.pi.al,hol,h.pi.ra,h.pi.ar,fun s g hg=>?_,fun g f1 t1 d1 hg=>?_⟩,fun s u x e1 e2=>?_,fun s u hs hu e1 e2=>?_,fun s x hx=>?_,by simp;have:=h.kl;omega,fun g f1 t1 d1 hg hd1=>?_⟩
 ·obtain⟨p,hp1,hp2⟩:=pos s (sn s g hg)
  rw [hof p s hp2] at hg
  by_cases hin:c≤p∧p < e
  ·rw [if_pos hin] at hg
   injection hg with hg
   subst hg
   exact⟨c,e,0,p,by rw [hls,if_pos rfl],hp1,hin.1,hin.2⟩
  ·rw [if_neg hin] at hg
   have hgl:=small s g hg
   by_cases ei:i=g
   ·subst ei
    have:=Sm p s hp2 hg
    exact⟨a,b,0,p,by rw [hls,if_neg (by omega),if_pos rfl],hp1,by omega,by omega⟩
   ·obtain⟨f1,t1,d1,p1,h1,h2,h3,h4⟩:=h.pi.C9 s g hg
    exact⟨f1,t1,d1,p1,by rw [hls,if_neg (by omega),if_neg ei];exact h1,h2,h3,h4⟩
 ·rw [hls] at hg
  by_cases e2:g=ls.length
  ·rw [if_pos e2] at hg
   injection hg with hg
   simp only [Prod.mk.injEq] at hg
   obtain⟨rfl,rfl,rfl⟩:=hg
   refine⟨by omega,by omega,by omega,fun p s h1 h2 hx=>⟨?_,fun hh=>by omega,fun _ p' s' h3 h4 hx'=>?_⟩⟩
   ·rw [hof p s hx,if_pos ⟨h1,h2⟩,e2]
   ·exact uni p p' s s' hx hx' (by omega) (by omega) (by omega) (by omega) ⟨fun _=>⟨h3,h4⟩,fun _=>⟨h1,h2⟩⟩
  ·rw [if_neg e2] at hg
   by_cases ei:i=g
   ·rw [if_pos ei] at hg
    injection hg with hg
    simp only [Prod.mk.injEq] at hg
    obtain⟨rfl,rfl,rfl⟩:=hg
    refine⟨by omega,by omega,by omega,fun p s h1 h2 hx=>⟨?_,fun hh=>by omega,fun _ p' s' h3 h4 hx'=>?_⟩⟩
    ·rw [hof p s hx,if_neg (by omega),←ei]
     exact (w4 p s (by omega) (by omega) hx).1
    ·exact uni p p' s s' hx hx' (by omega) (by omega) (by omega) (by omega) ⟨fun _=>by omega,fun _=>by omega⟩
   ·rw [if_neg ei] at hg
    obtain⟨b1,b2,b3,b4⟩:=h.pi.sO g f1 t1 d1 hg
    refine⟨b1,b2,b3,fun p s h1 h2 hx=>⟨?_,(b4 p s h1 h2 hx).2⟩⟩
    have hog:=(b4 p s h1 h2 hx).1
    rw [hof p s hx,if_neg (fun hh=>by
     have:=VX p s hx hh.1 hh.2
     rw [hog] at this
     injection this with this
     exact ei this.symm)]
    exact hog
 ·obtain⟨p,_,hp⟩:=pos s (sn s x e1)
  obtain⟨p',_,hp'⟩:=pos u (sn u x e2)
  rw [hof p s hp] at e1
  rw [hof p' u hp'] at e2
  by_cases hin:c≤p∧p < e
  ·rw [if_pos hin] at e1
   injection e1 with e1
   by_cases hin':c≤p'∧p' < e
   ·exact h.r1 s u i (VX p s hp hin.1 hin.2) (VX p' u hp' hin'.1 hin'.2)
   ·rw [if_neg hin'] at e2
    have:=small u x e2
    omega
  ·rw [if_neg hin] at e1
   by_cases hin':c≤p'∧p' < e
   ·rw [if_pos hin'] at e2
    injection e2 with e2
    have:=small s x e1
    omega
   ·rw [if_neg hin'] at e2
    exact h.r1 s u x e1 e2
 ·obtain⟨p,_,hp⟩:=pos s hs
  obtain⟨p',_,hp'⟩:=pos u hu
  have ho:=h.r2 s u hs hu e1 e2
  rw [hof p s hp,hof p' u hp']
  by_cases hin:c≤p∧p < e
  ·have o1:=VX p s hp hin.1 hin.2
   have o2:of[u]?=some i:=by rw [←ho];exact o1
   have:=Sm p' u hp' o2
   have q1:=(w4 p s (by omega) (by omega) hp).2.1 hd
   have q2:=(w4 p' u this.1 this.2 hp').2.1 hd
   rw [if_pos hin,if_pos]
   rw [←q1,←q2] at e2
   omega
  ·by_cases hin':c≤p'∧p' < e
   ·have o2:=VX p' u hp' hin'.1 hin'.2
    have o1:of[s]?=some i:=by rw [ho];exact o2
    have:=Sm p s hp o1
    have q1:=(w4 p s this.1 this.2 hp).2.1 hd
    have q2:=(w4 p' u (by omega) (by omega) hp').2.1 hd
    rw [←q1,←q2] at e2
    omega
   ·rw [if_neg hin,if_neg hin']
    exact ho
 ·obtain⟨p,_,hp⟩:=pos s (sn s x hx)
  rw [hof p s hp] at hx
  by_cases hin:c≤p∧p < e
  ·rw [if_pos hin] at hx
   injection hx with hx
   have:=h.kl
   exact Or.inr (by omega)
  ·rw [if_neg hin] at hx
   exact h.r3 s x hx
 ·rw [hls] at hg
  by_cases e2:g=ls.length
  ·rw [if_pos e2] at hg
   injection hg with hg
   simp only [Prod.mk.injEq] at hg
   omega
  ·rw [if_neg e2] at hg
   by_cases ei:i=g
   ·rw [if_pos ei] at hg
    injection hg with hg
    simp only [Prod.mk.injEq] at hg
    omega
   ·rw [if_neg ei] at hg
    exact h.d0 g f1 t1 d1 hg hd1
theorem P2.done {n K0:Nat} {jf row at' of:List Nat} {ls:List (Nat × Nat × Nat)} {T:Nat→Prop} (h:P2 n K0 jf row at' of ls T) (hz:∀(g f t d:Nat),ls[g]?=some (f,t,d)→d=0) (h0:jf.length=n):
  Split n (fun s=>jf[s]?.getD 0) K0 T (fun s=>of[s]?.getD 0) ls.length:=by
 have ol:=h.pi.ol
 have key:∀s,s < n→of[s]?=some (of[s]?.getD 0)∧jf[s]?=some (jf[s]?.getD 0):=fun s hs=>by
  rw [List.getElem?_eq_getElem (by omega),List.getElem?_eq_getElem (by omega)]
  exact⟨rfl,rfl⟩
 refine⟨h.kl,fun s hs=>?_,fun s hs=>?_,fun s t hs ht=>⟨fun e=>?_,fun e=>?_⟩⟩
 ·obtain⟨f,t,d,p,h1,_⟩:=h.pi.C9 s _ (key s hs).1
  exact (List.getElem?_eq_some_iff.1 h1).1
 ·rcases h.r3 s _ (key s hs).1 with e | e
  ·left
   show of[s]?.getD 0=jf[s]?.getD 0
   rw [e]
   rfl
  ·exact Or.inr e
 ·have e1:=(key s hs).1
  have e2:=(key t ht).1
  have e:of[s]?.getD 0=of[t]?.getD 0:=e
  rw [←e] at e2
  refine⟨by show jf[s]?.getD 0=jf[t]?.getD 0;rw [h.r1 s t _ e1 e2],?_⟩
  obtain⟨f,u,d,p,a1,a2,a3,a4⟩:=h.pi.C9 s _ e1
  obtain⟨f',u',d',p',b1,b2,b3,b4⟩:=h.pi.C9 t _ e2
  rw [a1] at b1
  injection b1 with b1
  simp only [Prod.mk.injEq] at b1
  obtain⟨rfl,rfl,rfl⟩:=b1
  obtain⟨_,_,_,q⟩:=h.pi.sO _ f u d a1
  exact (q p s a3 a4 (h.pi.ar s p a2)).2.2 (hz _ _ _ _ a1) p' t b3 b4 (h.pi.ar t p' b2)
 ·have e0:jf[s]?=jf[t]?:=by rw [(key s hs).2,(key t ht).2];exact congrArg some e.1
  show of[s]?.getD 0=of[t]?.getD 0
  rw [h.r2 s t hs ht e0 e.2]
theorem P2.again {n K0:Nat} {jf row at' of:List Nat} {ls:List (Nat × Nat × Nat)} {T:Nat→Prop} (h:P2 n K0 jf row at' of ls T) (hz:∀(g f t d:Nat),ls[g]?=some (f,t,d)→d=0):Pt n row at' of ls (fun _=>False):=
 ⟨h.pi.rl,h.pi.al,h.pi.ol,h.pi.ra,h.pi.ar,h.pi.C9,fun g f t d hg=>by
  obtain⟨a,b,c,e⟩:=h.pi.sO g f t d hg
  have:=hz g f t d hg
  subst this
  exact⟨a,b,c,fun p s h1 h2 hx=>⟨(e p s h1 h2 hx).1,⟨fun hh=>by omega,fun hh=>hh.elim⟩⟩⟩⟩
end Hm
end Go.Proofs.YtdlabakleldgaaaGreatDoor.L
namespace Go.Proofs.YtdlabakleldgaaaGreatDoor.L
open Go.RowKit Go.Maps
def gc (x:Nat × Nat × Nat):List Value:=[.int .i64 (x.1:Int),.int .i64 (x.2.1:Int),.int .i64 (x.2.2:Int)]
def jY (ls:List (Nat × Nat × Nat)):List Value:=ls.flatMap gc
theorem EM (ls:List (Nat × Nat × Nat)):(jY ls).length=ls.length*3:=by
 induction ls with
 | nil=>rfl
 | cons x ls ih=>simp [jY,gc] at ih ⊢;omega
theorem N9 (a b:List (Nat × Nat × Nat)):jY (a++b)=jY a++jY b:=by simp [jY]
theorem N_ (x:Nat × Nat × Nat):jY [x]=gc x:=by simp [jY]
theorem jF:∀(ls:List (Nat × Nat × Nat)) (g f t d:Nat),ls[g]?=some (f,t,d)→(jY ls)[g*3]?=some (.int .i64 (f:Int))∧(jY ls)[g*3+1]?=some (.int .i64 (t:Int))∧(jY ls)[g*3+2]?=some (.int .i64 (d:Int))
 | [],g,f,t,d,h=>by simp at h
 | x::ls,0,f,t,d,h=>by
  simp at h
  subst h
  exact⟨rfl,rfl,rfl⟩
 | x::ls,g+1,f,t,d,h=>by
  have ih:=jF ls g f t d (by simpa using h)
  have e:jY (x::ls)=gc x++jY ls:=by simp [jY]
  have e2:∀k,(gc x++jY ls)[k+3]?=(jY ls)[k]?:=fun k=>by simp [gc]
  rw [e]
  refine⟨?_,?_,?_⟩
  ·rw [show (g+1)*3=g*3+3 by omega,e2];exact ih.1
  ·rw [show (g+1)*3+1=g*3+1+3 by omega,e2];exact ih.2.1
  ·rw [show (g+1)*3+2=g*3+2+3 by omega,e2];exact ih.2.2
theorem yC:∀(ls:List (Nat × Nat × Nat)) (g f t d:Nat),g < ls.length→((((jY ls).set (g*3) (.int .i64 (f:Int))).set (g*3+1) (.int .i64 (t:Int))).set (g*3+2) (.int .i64 (d:Int)))=jY (ls.set g (f,t,d))
 | [],g,f,t,d,h=>by simp at h
 | x::ls,0,f,t,d,h=>by simp [jY,gc]
 | x::ls,g+1,f,t,d,h=>by
  have ih:=yC ls g f t d (by simpa using h)
  have e:jY (x::ls)=.int .i64 (x.1:Int)::.int .i64 (x.2.1:Int)::.int .i64 (x.2.2:Int)::jY ls:=by simp [jY,gc]
  have e':jY (x::ls.set g (f,t,d))=.int .i64 (x.1:Int)::.int .i64 (x.2.1:Int)::.int .i64 (x.2.2:Int)::jY (ls.set g (f,t,d)):=by simp [jY,gc]
  rw [List.set_cons_succ,e,e',←ih,show (g+1)*3=g*3+1+1+1 by omega,show g*3+1+1+1+1=g*3+1+1+1+1 by omega]
  simp only [List.set_cons_succ]
theorem KJ {ls:List (Nat × Nat × Nat)} {g f t d:Nat} (h:ls[g]?=some (f,t,d)) (d':Nat):(jY ls).set (g*3+2) (.int .i64 (d':Int))=jY (ls.set g (f,t,d')):=by
 have hl:=(List.getElem?_eq_some_iff.1 h).1
 obtain⟨h0,h1,h2⟩:=jF ls g f t d h
 rw [←yC ls g f t d' hl]
 congr 1
 have e0:(jY ls).set (g*3) (.int .i64 (f:Int))=jY ls:=by
  apply List.ext_getElem?
  intro j
  rw [List.getElem?_set]
  split
  ·rename_i e
   subst e
   rw [h0]
   rw [if_pos (by rw [EM];omega)]
  ·rfl
 rw [e0]
 apply List.ext_getElem?
 intro j
 rw [List.getElem?_set]
 split
 ·rename_i e
  subst e
  rw [h1]
  rw [if_pos (by rw [EM];omega)]
 ·rfl
theorem fP {w:World} {base e size n cap g:Nat} {xs:List Value} (h:w.ownsRow base e size (.slice (some ⟨g,0,none⟩) n cap) n xs) (j:Nat) (hj:j < n*size) (v:Value):(w.setCell ⟨g,j,none⟩ v).ownsRow base e size (.slice (some ⟨g,0,none⟩) n cap) n (xs.set j v):=by
 obtain⟨hl,⟨hv,h0⟩ | ⟨g',cap',cur,hv,h1,h2,h3,h4,h5,h6⟩⟩:=h
 ·cases hv
 ·injection hv with hv1 hv2 hv3
  injection hv1 with hv1
  injection hv1 with hv1
  subst hv1
  subst hv3
  refine⟨by rw [List.length_set];exact hl,Or.inr ⟨g,cap,cur.setIfInBounds j v,rfl,h1,aa h2 v,h3,h4,by simpa using h5,?_⟩⟩
  rw [Array.toList_setIfInBounds,List.take_set,h6]
theorem eZ {w:World} {base e size n cap g:Nat} {xs:List Value} (h:w.ownsRow base e size (.slice (some ⟨g,0,none⟩) n cap) n xs):base≤g∧n≤cap∧cap≤maxLen∧∃cur,w.heap[g]?=some (.cells cur e (0,0)):=by
 obtain⟨hl,⟨hv,h0⟩ | ⟨g',cap',cur,hv,h1,h2,h3,h4,h5,h6⟩⟩:=h
 ·cases hv
 ·injection hv with hv1 hv2 hv3
  injection hv1 with hv1
  injection hv1 with hv1
  subst hv1
  subst hv3
  exact⟨h1,h3,h4,cur,h2⟩
theorem pW {w:World} {base e size n:Nat} {v:Value} {xs:List Value} (h:w.ownsRow base e size v n xs) {c i:Nat} {u:Value} (hn:∀cur,w.heap[c]?≠some (.cells cur e (0,0))):(w.setCell ⟨c,i,none⟩ u).ownsRow base e size v n xs:=by
 obtain⟨hl,h | ⟨g',cap',cur,hv,h1,h2,h3⟩⟩:=h
 ·exact⟨hl,Or.inl h⟩
 ·refine⟨hl,Or.inr ⟨g',cap',cur,hv,h1,(Below.heap_setCell _ _ _ _ (fun e2=>?_)).trans h2,h3⟩⟩
  subst e2
  exact hn _ h2
theorem bq {S:Nat→Prop} {w w':World} {base e size n:Nat} {v:Value} {xs:List Value} (h:w.ownsRow base e size v n xs) (ho:Only S w w') (hn:∀c cur,S c→w.heap[c]?≠some (.cells cur e (0,0))):w'.ownsRow base e size v n xs:=by
 obtain⟨hl,h | ⟨g',cap',cur,hv,h1,h2,h3⟩⟩:=h
 ·exact⟨hl,Or.inl h⟩
 ·exact⟨hl,Or.inr ⟨g',cap',cur,hv,h1,(ho.block g' (Array.getElem?_eq_some_iff.1 h2).1 (fun hs=>hn g' cur hs h2)).trans h2,h3⟩⟩
structure Kp (base B1:Nat) (w w':World):Prop where
 os:w'.os=w.os
 tape:w'.tape=w.tape
 output:w'.output=w.output
 size:w.heap.size≤w'.heap.size
 old:∀b,b < base→b < w.heap.size→w'.heap[b]?=w.heap[b]?
 new:∀b o,B1≤b→w.heap[b]?=some o→(∀cs z,o≠.cells cs 168 z)→w'.heap[b]?=some o
theorem Kp.refl (base B1:Nat) (w:World):Kp base B1 w w:=⟨rfl,rfl,rfl,Nat.le_refl _,fun _ _ _=>rfl,fun _ _ _ h _=>h⟩
theorem Kp.trans {base B1:Nat} {a b c:World} (h:Kp base B1 a b) (k:Kp base B1 b c):Kp base B1 a c:=
 ⟨k.os.trans h.os,k.tape.trans h.tape,k.output.trans h.output,Nat.le_trans h.size k.size,fun x hx hl=>(k.old x hx (Nat.lt_of_lt_of_le hl h.size)).trans (h.old x hx hl),fun x o hx ho hn=>k.new x o hx (h.new x o hx ho hn) hn⟩
theorem Kp.of {base B1:Nat} {S:Nat→Prop} {w w':World} (h:Only S w w') (h1:∀b,S b→base≤b) (h2:∀b o,S b→B1≤b→w.heap[b]?=some o→∃cs z,o=.cells cs 168 z):Kp base B1 w w':=
 ⟨h.os,h.tape,h.output,h.size,fun b hb hl=>h.block b hl (fun hs=>by have:=h1 b hs;omega),fun b o hb ho hn=>(h.block b (Array.getElem?_eq_some_iff.1 ho).1 (fun hs=>by obtain⟨cs,z,e⟩:=h2 b o hs hb ho;exact hn cs z e)).trans ho⟩
theorem Kp.alloc {base B1:Nat} {a w:World} (h:Kp base B1 a w) (o:Obj):Kp base B1 a (w.alloc o):=h.trans (Kp.of ((Only.refl (fun _=>False) w).alloc o) (fun _ h=>h.elim) (fun _ _ h=>h.elim))
structure Ms (w:World) (gb rb ab ob n base B1:Nat) (vL:Value) (row at' of:List Nat) (ls:List (Nat × Nat × Nat)):Prop where
 G:Gb w gb rb ab ob n vL
 r:Nb w rb row
 a:Nb w ab at'
 o:Nb w ob of
 L:w.ownsRow base 168 3 vL ls.length (jY ls)
 ra:rb≠ab
 ro:rb≠ob
 ao:ab≠ob
 lo:base≤gb∧base≤rb∧base≤ab∧base≤ob
 hi:gb < B1∧rb < B1∧ab < B1∧ob < B1
 kl:0 < ls.length
 kn:ls.length≤n
 n1:n≤100000
theorem Ms.nl {w:World} {gb rb ab ob n base B1:Nat} {vL:Value} {row at' of:List Nat} {ls:List (Nat × Nat × Nat)} (h:Ms w gb rb ab ob n base B1 vL row at' of ls):∃lb cap,vL=.slice (some ⟨lb,0,none⟩) ls.length cap∧base≤lb∧lb < w.heap.size∧ls.length≤cap∧cap≤maxLen∧(∀j,j < ls.length*3→w.cell? ⟨lb,j,none⟩=(jY ls)[j]?)∧∃cur,w.heap[lb]?=some (.cells cur 168 (0,0)):=by
 obtain⟨g,cap,hv,h1,h2,h3,h4⟩:=ax h.L h.kl
 have hL:=h.L
 rw [hv] at hL
 obtain⟨a,b,c,d⟩:=eZ hL
 exact⟨g,cap,hv,h1,h2,h3,c,h4,d⟩
theorem Ms.keep {S:Nat→Prop} {w w':World} {gb rb ab ob n base B1:Nat} {vL:Value} {row at' of:List Nat} {ls:List (Nat × Nat × Nat)} (h:Ms w gb rb ab ob n base B1 vL row at' of ls) (ho:Only S w w') (h1:∀b,S b→B1≤b) (h2:∀c cur,S c→w.heap[c]?≠some (.cells cur 168 (0,0))):Ms w' gb rb ab ob n base B1 vL row at' of ls:=
 ⟨h.G.only ho (fun hs=>by have:=h1 _ hs;have:=h.hi.1;omega),h.r.only ho (fun hs=>by have:=h1 _ hs;have:=h.hi.2.1;omega),h.a.only ho (fun hs=>by have:=h1 _ hs;have:=h.hi.2.2.1;omega),h.o.only ho (fun hs=>by have:=h1 _ hs;have:=h.hi.2.2.2;omega),bq h.L ho h2,h.ra,h.ro,h.ao,h.lo,h.hi,h.kl,h.kn,h.n1⟩
theorem Ms.alloc {w:World} {gb rb ab ob n base B1:Nat} {vL:Value} {row at' of:List Nat} {ls:List (Nat × Nat × Nat)} (h:Ms w gb rb ab ob n base B1 vL row at' of ls) (o:Obj):Ms (w.alloc o) gb rb ab ob n base B1 vL row at' of ls:=h.keep ((Only.refl (fun _=>False) w).alloc o) (fun _ h=>h.elim) (fun _ _ h=>h.elim)
end Go.Proofs.YtdlabakleldgaaaGreatDoor.L
