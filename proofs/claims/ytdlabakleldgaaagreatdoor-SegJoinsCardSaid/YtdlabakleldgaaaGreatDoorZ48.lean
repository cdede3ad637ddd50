/- Sa V5 Mb -/
import Derived.Test.YtdlabakleldgaaaGreatDoorZ00
import Derived.Test.YtdlabakleldgaaaGreatDoorZ47
set_option linter.unusedVariables false
set_option linter.unusedSimpArgs false
set_option maxRecDepth 100000
set_option maxHeartbeats 8000000
namespace Go.Proofs.YtdlabakleldgaaaGreatDoor
namespace Rl
def er (t:Tk):Tk:=⟨t.text,0,t.bad⟩
def rz {α β:Type} (g:α→β):R α→R β
 | .error f=>.error (f.1,0)
 | .ok x=>.ok (g x)
theorem eB (t:Tk):(er t).text=t.text:=rfl
theorem jI (t:Tk):(er t).bad=t.bad:=rfl
theorem je (t:Tk):(er t).at'=0:=rfl
theorem yV (t:Tk):fe (er t)=fe t:=rfl
theorem TK (t:Tk):sS (er t)=sS t:=rfl
theorem bG {α β:Type} {g:α→β} {c:Prop} [Decidable c] {a b:R β} {x y:R α} (h1:c→a=rz g x) (h2:¬ c→b=rz g y):(if c then a else b)=rz g (if c then x else y):=by
 by_cases h:c
 ·rw [if_pos h,if_pos h];exact h1 h
 ·rw [if_neg h,if_neg h];exact h2 h
theorem Fg (c:UInt8):∀ts:List Tk,took c (ts.map er)=rz (fun x=>(x.1,x.2.map er)) (took c ts)
 | []=>rfl
 | t::ts=>by
  simp only [List.map_cons,took,eB,jI,je]
  refine bG (fun _=>?_) (fun _=>?_)
  ·rfl
  ·refine bG (fun _=>?_) (fun _=>?_) <;> rfl
theorem jJ (c:UInt8):∀ts:List Tk,want c (ts.map er)=rz (fun x=>x.map er) (want c ts)
 | []=>rfl
 | t::ts=>by
  simp only [List.map_cons,want,eB,jI,je]
  refine bG (fun _=>?_) (fun _=>?_)
  ·rfl
  ·refine bG (fun _=>?_) (fun _=>?_) <;> rfl
theorem kR (E:Env):∀(ts:List Tk) (a:Int),names E (ts.map er) a=rz (fun x=>(x.1,x.2.map er)) (names E ts a)
 | [],_=>rfl
 | t::ts,a=>by
  simp only [List.map_cons,names,eB,jI,je,yV]
  refine bG (fun _=>?_) (fun _=>?_)
  ·rfl
  ·refine bG (fun _=>?_) (fun _=>?_)
   ·cases find E t.text with
    | none=>rfl
    | some b=>exact kR E ts (gu a b)
   ·rfl
theorem OX (E:Env) (nc:Nat):∀(ts:List Tk) (p:Nat),fq E nc (ts.map er) p=rz (fun x=>(x.1,x.2.1.map er,x.2.2)) (fq E nc ts p)
 | [],_=>rfl
 | t::ts,p=>by
  simp only [List.map_cons,fq,eB,jI,je]
  refine bG (fun _=>?_) (fun _=>?_)
  ·rfl
  ·refine bG (fun _=>?_) (fun _=>?_)
   ·rfl
   ·refine bG (fun _=>?_) (fun _=>?_)
    ·rw [Fg]
     cases took 94 ts with
     | error f=>rfl
     | ok x=>
      obtain⟨no,bK⟩:=x
      simp only [rz]
      rw [kR]
      cases names E bK 0 with
      | error f=>rfl
      | ok y=>
       obtain⟨b,dC⟩:=y
       simp only [rz]
       rw [jJ]
       cases want 93 dC with
       | error f=>rfl
       | ok z=>rfl
    ·cases find E t.text with
     | none=>rfl
     | some b=>rfl
theorem LY (e:Ex):∀ts:List Tk,often e (ts.map er)=rz (fun x=>(x.1,x.2.map er)) (often e ts)
 | []=>rfl
 | t::ts=>by
  simp only [List.map_cons,often,eB,jI,je]
  repeat' refine bG (fun _=>?_) (fun _=>?_)
  all_goals rfl
theorem yX (E:Env) (nc:Nat):∀n:Nat,
  (∀d ts p,either E nc n d (ts.map er) p=rz (fun x=>(x.1,x.2.1.map er,x.2.2)) (either E nc n d ts p))∧
  (∀d ts p l,alts E nc n d (ts.map er) p l=rz (fun x=>(x.1,x.2.1.map er,x.2.2)) (alts E nc n d ts p l))∧
  (∀d ts p l,row E nc n d (ts.map er) p l=rz (fun x=>(x.1,x.2.1.map er,x.2.2)) (row E nc n d ts p l))∧
  (∀d ts p,thing E nc n d (ts.map er) p=rz (fun x=>(x.1,x.2.1.map er,x.2.2)) (thing E nc n d ts p))
 | 0=>⟨fun _ _ _=>by simp only [either];rfl,fun _ _ _ _=>by simp only [alts];rfl,fun _ _ _ _=>by simp only [row];rfl,fun _ _ _=>by simp only [thing];rfl⟩
 | n+1=>by
  obtain⟨h1,h2,h3,h4⟩:=yX E nc n
  refine⟨fun d ts p=>?_,fun d ts p l=>?_,fun d ts p l=>?_,fun d ts p=>?_⟩
  ·simp only [either]
   rw [h3]
   cases row E nc n d ts p [] with
   | error f=>rfl
   | ok x=>exact h2 _ _ _ _
  ·simp only [alts]
   rw [Fg]
   cases took 124 ts with
   | error f=>rfl
   | ok x=>
    obtain⟨b,bK⟩:=x
    cases b with
    | false=>rfl
    | true=>
     simp only [rz]
     rw [h3]
     cases row E nc n d bK p [] with
     | error f=>rfl
     | ok y=>exact h2 _ _ _ _
  ·cases ts with
   | nil=>simp only [List.map_nil,row];rfl
   | cons t ts=>
    simp only [List.map_cons,row,jI,je,TK]
    refine bG (fun _=>?_) (fun _=>?_)
    ·rfl
    ·refine bG (fun _=>?_) (fun _=>?_)
     ·have h5:=h4 d (t::ts) p
      rw [List.map_cons] at h5
      rw [h5]
      cases thing E nc n d (t::ts) p with
      | error f=>rfl
      | ok x=>
       simp only [rz]
       rw [LY]
       cases often x.1 x.2.1 with
       | error f=>rfl
       | ok y=>exact h3 _ _ _ _
     ·rfl
  ·cases ts with
   | nil=>simp only [List.map_nil,thing];rfl
   | cons t ts=>
    simp only [List.map_cons,thing,eB,je]
    refine bG (fun _=>?_) (fun _=>?_)
    ·refine bG (fun _=>?_) (fun _=>?_)
     ·rfl
     ·rw [h1]
      cases either E nc n (d+1) ts p with
      | error f=>rfl
      | ok x=>
       simp only [rz]
       rw [jJ]
       cases want 41 x.2.1 with
       | error f=>rfl
       | ok y=>rfl
    ·have h5:=OX E nc (t::ts) p
     rw [List.map_cons] at h5
     rw [h5]
     cases fq E nc (t::ts) p with
     | error f=>rfl
     | ok x=>rfl
theorem uV:∀(ts:List Tk) (s:St),classes (ts.map er) s=rz (fun x=>(x.1.map er,x.2)) (classes ts s)
 | [],_=>rfl
 | t::ts,s=>by
  simp only [List.map_cons,classes,eB,jI,je,yV]
  refine bG (fun _=>?_) (fun _=>?_)
  ·rfl
  ·refine bG (fun _=>?_) (fun _=>?_)
   ·refine bG (fun _=>?_) (fun _=>?_)
    ·rfl
    ·refine bG (fun _=>?_) (fun _=>?_)
     ·rfl
     ·exact uV ts _
   ·rfl
theorem Fh:∀ts:List Tk,name (ts.map er)=rz (fun x=>(er x.1,x.2.map er)) (name ts)
 | []=>rfl
 | t::ts=>by
  simp only [List.map_cons,name,jI,je,yV]
  repeat' refine bG (fun _=>?_) (fun _=>?_)
  all_goals rfl
theorem LZ (E:Env) (ts:List Tk):fresh E (ts.map er)=rz (fun x=>(er x.1,x.2.map er)) (fresh E ts):=by
 unfold fresh
 rw [Fh]
 cases name ts with
 | error f=>rfl
 | ok x=>
  simp only [rz,eB,je]
  refine bG (fun _=>?_) (fun _=>?_) <;> rfl
theorem TL (ts:List Tk) (s:St):set' (ts.map er) s=rz (fun x=>(x.1.map er,x.2)) (set' ts s):=by
 unfold set'
 rw [LZ]
 cases fresh s.env ts with
 | error f=>rfl
 | ok x=>
  simp only [rz]
  rw [jJ]
  cases want 61 x.2 with
  | error f=>rfl
  | ok y=>
   simp only [rz]
   rw [kR]
   cases names s.env y 0 with
   | error f=>rfl
   | ok z=>rfl
theorem OY (ts:List Tk) (s:St):join' (ts.map er) s=rz (fun x=>(x.1.map er,x.2)) (join' ts s):=by
 unfold join'
 rw [kR]
 cases names s.env ts 0 with
 | error f=>rfl
 | ok x=>
  simp only [rz]
  rw [jJ]
  cases want 47 x.2 with
  | error f=>rfl
  | ok y=>
   simp only [rz]
   rw [kR]
   cases names s.env y 0 with
   | error f=>rfl
   | ok z=>rfl
theorem Bj (C:List Str) (ts:List Tk):placeOf C (ts.map er)=rz (fun x=>(x.1,x.2.map er)) (placeOf C ts):=by
 unfold placeOf
 rw [Fh]
 cases name ts with
 | error f=>rfl
 | ok x=>
  simp only [rz,eB,je]
  cases place C x.1.text with
  | none=>rfl
  | some k=>rfl
theorem L6 (ts:List Tk) (s:St):dV (ts.map er) s=rz (fun x=>(x.1.map er,x.2)) (dV ts s):=by
 unfold dV
 rw [Bj]
 cases placeOf s.cls ts with
 | error f=>rfl
 | ok x=>
  simp only [rz]
  rw [jJ]
  cases want 61 x.2 with
  | error f=>rfl
  | ok y=>
   simp only [rz]
   rw [Bj]
   cases placeOf s.cls y with
   | error f=>rfl
   | ok z=>rfl
theorem Fj (ts:List Tk):fuel (ts.map er)=fuel ts:=by unfold fuel;rw [List.length_map]
theorem OZ (d:Int) (a b:Nat) (ts:List Tk) (s:St):bV d a (ts.map er) s=rz (fun x=>(x.1.map er,x.2)) (bV d b ts s)∨(a≠0∧True):=by
 by_cases ha:a=0
 ·left
  subst ha
  unfold bV
  refine bG (fun _=>?_) (fun _=>?_)
  ·rfl
  ·rw [Fj,(yX _ _ _).1]
   cases either s.env s.cls.length (fuel ts) 0 ts s.places with
   | error f=>rfl
   | ok x=>
    simp only [rz]
    rw [jJ]
    cases want 47 x.2.1 with
    | error f=>rfl
    | ok y=>
     simp only [rz]
     rw [Fj,(yX _ _ _).1]
     cases either s.env s.cls.length (fuel y) 0 y x.2.2 with
     | error f=>rfl
     | ok z=>rfl
 ·exact Or.inr ⟨ha,trivial⟩
theorem uW (d:Int) (b:Nat) (ts:List Tk) (s:St):bV d 0 (ts.map er) s=rz (fun x=>(x.1.map er,x.2)) (bV d b ts s):=(OZ d 0 b ts s).resolve_right (fun h=>h.1 rfl)
theorem O5 (t:Tk) (ts:List Tk) (s:St):line (er t) (ts.map er) s=rz (fun x=>(x.1.map er,x.2)) (line t ts s):=by
 unfold line
 simp only [eB,je]
 refine bG (fun _=>?_) (fun _=>?_)
 ·exact uV ts s
 ·refine bG (fun _=>?_) (fun _=>?_)
  ·exact TL ts s
  ·refine bG (fun _=>?_) (fun _=>?_)
   ·exact OY ts s
   ·refine bG (fun _=>?_) (fun _=>?_)
    ·exact L6 ts s
    ·refine bG (fun _=>?_) (fun _=>?_)
     ·exact uW _ _ ts s
     ·refine bG (fun _=>?_) (fun _=>?_)
      ·exact uW _ _ ts s
      ·refine bG (fun _=>?_) (fun _=>?_)
       ·exact uW _ _ ts s
       ·rfl
theorem Bn:∀(n:Nat) (ts:List Tk) (s:St),lines n (ts.map er) s=rz (fun x=>x) (lines n ts s)
 | 0,_,_=>rfl
 | _+1,[],_=>rfl
 | n+1,t::ts,s=>by
  simp only [List.map_cons,lines,eB,jI,je]
  refine bG (fun _=>?_) (fun _=>?_)
  ·rfl
  ·refine bG (fun _=>?_) (fun _=>?_)
   ·rfl
   ·rw [O5]
    cases line t ts s with
    | error f=>rfl
    | ok x=>
     simp only [rz]
     rw [jJ]
     cases want 59 x.1 with
     | error f=>rfl
     | ok y=>exact Bn n y x.2
def q (l:Str):Str:=l.drop (blk false l)
def key (t:Tk):Str × Bool:=(t.text,t.bad)
inductive Pk:Str→List (Str × Bool)→Prop
 | fin (l:Str):ic (q l)=0→Pk l [([],decide (q l≠[]))]
 | step (l:Str) (K:List (Str × Bool)):0 < ic (q l)→Pk ((q l).drop (ic (q l))) K→Pk l (((q l).take (ic (q l)),false)::K)
theorem Pk.one {l:Str} {K:List (Str × Bool)} (h:Pk l K):∀ {K':List (Str × Bool)},Pk l K'→K=K':=by
 induction h with
 | fin l h=>
  intro K' h'
  cases h' with
  | fin _ _=>rfl
  | step _ _ k _=>omega
 | step l K h _ ih=>
  intro K' h'
  cases h' with
  | fin _ k=>omega
  | step _ _ _ k=>rw [ih k]
theorem Pk.same {l l':Str} {K:List (Str × Bool)} (h:Pk l K) (e:q l'=q l):Pk l' K:=by
 cases h with
 | fin _ h=>rw [←e] at h ⊢;exact .fin l' h
 | step _ K h k=>rw [←e] at h k ⊢;exact .step l' K h k
theorem uX (l:Str) (i:Nat):q (l.drop i)=l.drop (nx l i):=by unfold q nx;rw [List.drop_drop]
theorem Fp {l:Str}:∀ {ts:List Tk} {i:Nat},jg l i ts→Pk (l.drop i) (ts.map key)
 | [],_,h=>h.elim
 | t::ts,i,h=>by
  have h1:=h.1
  have hl:=BR l i
  by_cases e:t.text=[]
  ·have h2:=h.2
   rw [if_pos e] at h2
   subst h2
   rw [h1] at e
   rw [e] at hl
   have hp:ic (q (l.drop i))=0:=by rw [uX];exact hl.symm
   have hk:key t=([],decide (q (l.drop i)≠[])):=by
    rw [h1]
    unfold key
    rw [e,uX]
    unfold tk
    simp only [←hl,List.length_nil,and_true]
   rw [List.map_cons,List.map_nil,hk]
   exact .fin _ hp
  ·have h2:=eG h e
   rw [h1] at e
   have hp:0 < ic (q (l.drop i)):=by rw [uX,←hl];exact List.length_pos_iff.2 e
   have ih:=Fp h2
   have hk:key t=((q (l.drop i)).take (ic (q (l.drop i))),false):=by
    rw [h1]
    unfold key
    rw [uX] at hp ⊢
    unfold tk
    simp only [Prod.mk.injEq,true_and,decide_eq_false_iff_not]
    omega
   rw [List.map_cons,hk]
   refine .step _ _ hp ?_
   rw [uX,List.drop_drop,←hl,←h1]
   have ha:t.at'=nx l i:=by rw [h1];rfl
   rw [ha] at ih
   exact ih
theorem yY (c:UInt8) (r:Str) (h:c.toNat=10∨c.toNat=32∨c.toNat=9∨c.toNat=13):q (c::r)=q r:=by
 unfold q
 rw [j5]
 by_cases e:c.toNat=10
 ·rw [if_pos e,Nat.add_comm,List.drop_succ_cons]
 ·rw [if_neg e,if_pos (Or.inr (h.resolve_left e)),Nat.add_comm,List.drop_succ_cons]
theorem qj (c:UInt8) (r:Str) (h:¬(c.toNat=10∨c.toNat=32∨c.toNat=9∨c.toNat=13)) (h2:c.toNat≠35):q (c::r)=c::r:=by
 unfold q
 rw [j5,if_neg (fun e=>h (Or.inl e)),if_neg (fun e=>e.elim (fun e=>by cases e) (fun e=>h (Or.inr e))),if_neg h2]
 rfl
end Rl
end Go.Proofs.YtdlabakleldgaaaGreatDoor
namespace Go.Proofs.YtdlabakleldgaaaGreatDoor
open Go.RowKit Go.Maps
theorem laidOut:laidOutB Tryz.prog=true:=by kernel_rfl
end Go.Proofs.YtdlabakleldgaaaGreatDoor
namespace Go.Proofs.YtdlabakleldgaaaGreatDoor
namespace Rl
open Hd (at' up ex)
def j4 (n b:Nat):Nat→List Str
 | 0=>[]
 | k+1=>j4 n b k++if Hd.bit b k=true then [Hd.name n k] else []
def xp (n:Nat) (L:List Nat):Nat→Nat→List Str
 | 0,i=>[Hd.name n (at' L i)]
 | d+1,i=>
  if at' L i % 12=4 then [[46]]
  else if at' L i % 12=5 then ([[91]]++j4 n (at' L (up L i)) n)++[[93]]
  else if at' L i % 12=6 then ([[91],[94]]++j4 n (at' L (up L i)) n)++[[93]]
  else if at' L i % 12=7 then ([[40]]++xp n L d (up L i))++[[41],[42]]
  else if at' L i % 12=8 then ([[40]]++xp n L d (up L i))++[[41],[43]]
  else if at' L i % 12=9 then ([[40]]++xp n L d (up L i))++[[41],[63]]
  else if at' L i % 12=10 then ((([[40]]++xp n L d (up L i))++[[124]])++xp n L d (ex n L d (up L i)).2)++[[41]]
  else if at' L i % 12=11 then (xp n L d (up L i)++[])++xp n L d (ex n L d (up L i)).2
  else [Hd.name n (at' L i)]
def wu (n:Nat) (L:List Nat):List Str:=if L.length=0 then [] else xp n (L.take 30) 3 0
def fx (n:Nat):List Str:=([j6]++j4 n 255 n)++[[59]]
def sx (n jo af:Nat):List Str:=if jo=0 then fx n else ((((fx n++[j_])++j4 n jo n)++[[47]])++j4 n af n)++[[59]]
def O6 (n:Nat) (T:List Nat) (t:List Str):Nat→List Str
 | 0=>t
 | k+1=>((((O6 n T t k++[fE])++[Hd.name n k])++[[61]])++[Hd.name n (at' T k)])++[[59]]
def MQ (d:Nat):Str:=if d % 3=0 then tQ else if d % 3=1 then BS else tT
def L8 (n:Nat) (rs:List Pr) (t:List Str):Nat→List Str
 | 0=>t
 | k+1=>match rs[k]? with
  | none=>L8 n rs t k
  | some x=>((((L8 n rs t k++[MQ x.d])++wu n x.L)++[[47]])++wu n x.R)++[[59]]
def tx (n jo af:Nat) (T:List Nat) (rs:List Pr):List Str:=L8 n rs (O6 n T (sx n jo af) (min T.length n)) (min rs.length 10)
def Pc (l:Str) (X:List Str):Prop:=Pk l (X.map (fun x=>(x,false))++[([],false)])
theorem Pc.none:Pc [] []:=Pk.fin [] rfl
def sgn (c:UInt8):Bool:=!sw c && !decide (c.toNat=10∨c.toNat=32∨c.toNat=9∨c.toNat=13) && !decide (c.toNat=35) && signs.contains c
theorem Pc.sign {c:UInt8} {l:Str} {X:List Str} (hc:sgn c=true) (h:Pc l X):Pc (c::l) ([c]::X):=by
 unfold sgn at hc
 simp only [Bool.and_eq_true,Bool.not_eq_true',decide_eq_false_iff_not] at hc
 obtain⟨⟨⟨h1,h2⟩,h3⟩,h4⟩:=hc
 have e:q (c::l)=c::l:=qj c l h2 h3
 have p:ic (c::l)=1:=by
  have h5:jR (c::l)=0:=by rw [iU,if_neg (by rw [h1];exact Bool.false_ne_true)]
  unfold ic
  rw [h5,if_neg (Nat.lt_irrefl 0)]
  exact if_pos h4
 have:=Pk.step (c::l) _ (by rw [e,p];omega) (by rw [e,p];exact h)
 rw [e,p] at this
 exact this
theorem Ht {c:UInt8} (h:sw c=true):¬(c.toNat=10∨c.toNat=32∨c.toNat=9∨c.toNat=13)∧c.toNat≠35:=by
 unfold sw at h
 simp only [Bool.or_eq_true,Bool.and_eq_true,decide_eq_true_eq] at h
 omega
theorem Fq {l:Str} (hl:jR l=0):∀w:Str,(∀c∈w,sw c=true)→jR (w++l)=w.length
 | [],_=>hl
 | c::w,h=>by
  rw [List.cons_append,iU,if_pos (h c List.mem_cons_self),Fq hl w (fun x hx=>h x (List.mem_cons_of_mem _ hx)),List.length_cons]
  omega
theorem Pc.name {w l:Str} {X:List Str} (hw:w≠[]) (ha:∀c∈w,sw c=true) (hl:jR l=0) (h:Pc l X):Pc (w++l) (w::X):=by
 have h1:=Fq hl w ha
 have h2:0 < w.length:=List.length_pos_iff.2 hw
 have e:q (w++l)=w++l:=by
  cases w with
  | nil=>exact absurd rfl hw
  | cons c w=>
   obtain⟨a,b⟩:=Ht (ha c List.mem_cons_self)
   exact qj c _ a b
 have p:ic (w++l)=w.length:=by
  unfold ic
  rw [h1,if_pos h2]
 have:=Pk.step (w++l) _ (by rw [e,p];omega) (by rw [e,p,List.drop_left];exact h)
 rw [e,p,List.take_left] at this
 exact this
def Lx (l:Str) (X:List Str):Prop:=∀r Y,jR r=0→Pc r Y→Pc (l++r) (X++Y)
def Lz (l:Str) (X:List Str):Prop:=∀r Y,Pc r Y→Pc (l++r) (X++Y)
def Fr (l:Str):Prop:=∀r,jR r=0→jR (l++r)=0
def Fz (l:Str):Prop:=∀r,jR (l++r)=0
theorem Lz.lx {l:Str} {X:List Str} (h:Lz l X):Lx l X:=fun r Y _ hp=>h r Y hp
theorem Fz.fr {l:Str} (h:Fz l):Fr l:=fun r _=>h r
theorem Lx.app {a b:Str} {X Y:List Str} (h:Lx a X) (hf:Fr b) (k:Lx b Y):Lx (a++b) (X++Y):=fun r Z hr hp=>by
 rw [List.append_assoc,List.append_assoc]
 exact h _ _ (hf r hr) (k r Z hr hp)
theorem Lx.jK {a b:Str} {X Y:List Str} (h:Lx a X) (hf:Fz b) (k:Lz b Y):Lz (a++b) (X++Y):=fun r Z hp=>by
 rw [List.append_assoc,List.append_assoc]
 exact h _ _ (hf r) (k r Z hp)
theorem Lz.app {a b:Str} {X Y:List Str} (h:Lz a X) (k:Lz b Y):Lz (a++b) (X++Y):=fun r Z hp=>by
 rw [List.append_assoc,List.append_assoc]
 exact h _ _ (k r Z hp)
theorem Lz.oF {a b:Str} {X Y:List Str} (h:Lz a X) (k:Lx b Y):Lx (a++b) (X++Y):=fun r Z hr hp=>by
 rw [List.append_assoc,List.append_assoc]
 exact h _ _ (k r Z hr hp)
theorem Lz.nil:Lz [] []:=fun r Y h=>h
theorem Lz.sign (c:UInt8) (hc:sgn c=true):Lz [c] [[c]]:=fun r Y h=>Pc.sign hc h
theorem Lz.blank (c:UInt8) (hc:c.toNat=10∨c.toNat=32∨c.toNat=9∨c.toNat=13):Lz [c] []:=fun r Y h=>Pk.same h (yY c r hc)
theorem Fz.one (c:UInt8) (l:Str) (hc:sw c=false):Fz (c::l):=fun r=>by
 rw [List.cons_append,iU,if_neg (by rw [hc];exact Bool.false_ne_true)]
theorem Fr.nil:Fr []:=fun r h=>h
theorem Fr.app {a b:Str} (h:Fr a) (k:Fr b):Fr (a++b):=fun r hr=>by rw [List.append_assoc];exact h _ (k r hr)
theorem Lx.word (w:Str) (hw:w≠[]) (ha:∀c∈w,sw c=true):Lx w [w]:=fun r Y hr h=>Pc.name hw ha hr h
def Xv:Bool:=(List.range 6).all (fun m=>sw (65+m).toUInt8 && decide ((65+m).toUInt8.toNat=65+m))
theorem Hu:Xv=true:=by kernel_rfl
theorem kS {n:Nat} (hn:1≤n) (bg:n≤6) (i:Nat):sw (65+i % n).toUInt8=true∧(65+i % n).toUInt8.toNat=65+i % n:=by
 have h:=Hu
 unfold Xv at h
 rw [List.all_eq_true] at h
 have:=h (i % n) (List.mem_range.2 (by have:=Nat.mod_lt i (by omega:n > 0);omega))
 rw [Bool.and_eq_true,decide_eq_true_eq] at this
 exact this
theorem qm {n:Nat} (hn:1≤n) (bg:n≤6) (i:Nat):Lx (Hd.name n i) [Hd.name n i]:=Lx.word _ (by simp [Hd.name]) (fun c hc=>by
 simp only [Hd.name,List.mem_singleton] at hc
 rw [hc]
 exact (kS hn bg i).1)
theorem kT {n:Nat} (hn:1≤n) (bg:n≤6) (b:Nat):∀k,Lx (Hd.names n b k) (j4 n b k)∧Fr (Hd.names n b k)
 | 0=>⟨Lz.nil.lx,Fr.nil⟩
 | k+1=>by
  obtain⟨h1,h2⟩:=kT hn bg b k
  rw [Hd.names,j4]
  by_cases hb:Hd.bit b k=true
  ·rw [if_pos hb,if_pos hb]
   have hf:Fz (32::Hd.name n k):=Fz.one 32 _ rfl
   refine⟨h1.app hf.fr ?_,h2.app hf.fr⟩
   exact (Lz.blank 32 (by decide)).oF (qm hn bg k)
  ·rw [if_neg hb,if_neg hb,List.append_nil,List.append_nil]
   exact⟨h1,h2⟩
theorem L9 {n:Nat} (hn:1≤n) (bg:n≤6) (L:List Nat):∀d i,Lx (ex n L d i).1 (xp n L d i)
 | 0,i=>qm hn bg _
 | d+1,i=>by
  have h1:=L9 hn bg L d (up L i)
  have h2:=L9 hn bg L d (ex n L d (up L i)).2
  have h3:=(kT hn bg (at' L (up L i)) n)
  have z41:∀l,Fz (41::l):=fun l=>Fz.one 41 l rfl
  rw [ex,xp]
  by_cases c4:at' L i % 12=4
  ·rw [if_pos c4,if_pos c4]
   exact (Lz.sign 46 rfl).lx
  rw [if_neg c4,if_neg c4]
  by_cases c5:at' L i % 12=5
  ·rw [if_pos c5,if_pos c5]
   exact (((Lz.sign 91 rfl).oF h3.1).jK (Fz.one 93 [] rfl) (Lz.sign 93 rfl)).lx
  rw [if_neg c5,if_neg c5]
  by_cases c6:at' L i % 12=6
  ·rw [if_pos c6,if_pos c6]
   exact ((((Lz.sign 91 rfl).app (Lz.sign 94 rfl)).oF h3.1).jK (Fz.one 93 [] rfl) (Lz.sign 93 rfl)).lx
  rw [if_neg c6,if_neg c6]
  by_cases c7:at' L i % 12=7
  ·rw [if_pos c7,if_pos c7]
   exact (((Lz.sign 40 rfl).oF h1).jK (z41 [42]) ((Lz.sign 41 rfl).app (Lz.sign 42 rfl))).lx
  rw [if_neg c7,if_neg c7]
  by_cases c8:at' L i % 12=8
  ·rw [if_pos c8,if_pos c8]
   exact (((Lz.sign 40 rfl).oF h1).jK (z41 [43]) ((Lz.sign 41 rfl).app (Lz.sign 43 rfl))).lx
  rw [if_neg c8,if_neg c8]
  by_cases c9:at' L i % 12=9
  ·rw [if_pos c9,if_pos c9]
   exact (((Lz.sign 40 rfl).oF h1).jK (z41 [63]) ((Lz.sign 41 rfl).app (Lz.sign 63 rfl))).lx
  rw [if_neg c9,if_neg c9]
  by_cases c10:at' L i % 12=10
  ·rw [if_pos c10,if_pos c10]
   exact (((((Lz.sign 40 rfl).oF h1).jK (Fz.one 124 [] rfl) (Lz.sign 124 rfl)).oF h2).jK (Fz.one 41 [] rfl) (Lz.sign 41 rfl)).lx
  rw [if_neg c10,if_neg c10]
  by_cases c11:at' L i % 12=11
  ·rw [if_pos c11,if_pos c11]
   exact (h1.jK (Fz.one 32 [] rfl) (Lz.blank 32 (by decide))).oF h2
  rw [if_neg c11,if_neg c11]
  exact qm hn bg _
theorem Fs {n:Nat} (hn:1≤n) (bg:n≤6) (L:List Nat):Lx (Hd.expr n L) (wu n L):=by
 unfold Hd.expr wu
 by_cases h:L.length=0
 ·rw [if_pos h,if_pos h];exact Lz.nil.lx
 ·rw [if_neg h,if_neg h];exact L9 hn bg _ 3 0
theorem yZ:Lz [59,10] [[59]]:=(Lz.sign 59 rfl).app (Lz.blank 10 (by decide))
theorem y9:Fz [59,10]:=Fz.one 59 _ rfl
theorem Bo {n:Nat} (hn:1≤n) (bg:n≤6):Lz (Hd.first n) (fx n):=by
 have h:=kT hn bg 255 n
 exact ((Lx.word j6 (by decide) (by decide)).app h.2 h.1).jK y9 yZ
theorem Hw {n:Nat} (hn:1≤n) (bg:n≤6) (jo af:Nat):Lz (Hd.second n jo af) (sx n jo af):=by
 have h:=kT hn bg jo n
 have k:=kT hn bg af n
 unfold Hd.second sx
 by_cases e:jo=0
 ·rw [if_pos e,if_pos e];exact Bo hn bg
 ·rw [if_neg e,if_neg e]
  have s1:=(Bo hn bg).oF (Lx.word j_ (by decide) (by decide))
  have s2:=s1.app h.2 h.1
  have s3:Lz [32,47] [[47]]:=(Lz.blank 32 (by decide)).app (Lz.sign 47 rfl)
  have s4:=s2.jK (Fz.one 32 [47] rfl) s3
  exact (s4.oF k.1).jK y9 yZ
theorem Bp {n:Nat} (hn:1≤n) (bg:n≤6) (T:List Nat) {t:Str} {X:List Str} (h:Lz t X):∀k,Lz (Hd.au n T t k) (O6 n T X k)
 | 0=>h
 | k+1=>by
  have ih:=Bp hn bg T h k
  rw [Hd.au,O6]
  have s0:Lz [116,114,101,97,116,32] [fE]:=(Lx.word fE (by decide) (by decide)).jK (Fz.one 32 [] rfl) (Lz.blank 32 (by decide))
  have s1:Lz [32,61,32] [[61]]:=((Lz.blank 32 (by decide)).app (Lz.sign 61 rfl)).app (Lz.blank 32 (by decide))
  have s2:=((ih.app s0).oF (qm hn bg k)).jK (Fz.one 32 [61,32] rfl) s1
  exact (s2.oF (qm hn bg (at' T k))).jK y9 yZ
theorem O7 (d:Nat):Lz (Hd.word d) [MQ d]:=by
 unfold Hd.word MQ
 have b:=Lz.blank 32 (by decide)
 have f:Fz [32]:=Fz.one 32 [] rfl
 by_cases h0:d % 3=0
 ·rw [if_pos h0,if_pos h0];exact (Lx.word tQ (by decide) (by decide)).jK f b
 rw [if_neg h0,if_neg h0]
 by_cases h1:d % 3=1
 ·rw [if_pos h1,if_pos h1];exact (Lx.word BS (by decide) (by decide)).jK f b
 rw [if_neg h1,if_neg h1]
 exact (Lx.word tT (by decide) (by decide)).jK f b
theorem Qq {n:Nat} (hn:1≤n) (bg:n≤6) (rs:List Pr) {t:Str} {X:List Str} (h:Lz t X):∀k,Lz (Hd.ru n rs t k) (L8 n rs X k)
 | 0=>h
 | k+1=>by
  have ih:=Qq hn bg rs h k
  rw [Hd.ru,L8]
  cases rs[k]? with
  | none=>exact ih
  | some x=>
   have s1:Lz [32,47,32] [[47]]:=((Lz.blank 32 (by decide)).app (Lz.sign 47 rfl)).app (Lz.blank 32 (by decide))
   have s2:=((ih.app (O7 x.d)).oF (Fs hn bg x.L)).jK (Fz.one 32 [47,32] rfl) s1
   exact (s2.oF (Fs hn bg x.R)).jK y9 yZ
theorem O8 {n:Nat} (hn:1≤n) (bg:n≤6) (jo af:Nat) (T:List Nat) (rs:List Pr):Pc (Hd.text n jo af T rs) (tx n jo af T rs):=by
 have:=Qq hn bg rs (Bp hn bg T (Hw hn bg jo af) (min T.length n)) (min rs.length 10) [] [] Pc.none
 rw [List.append_nil,List.append_nil] at this
 exact this
end Rl
end Go.Proofs.YtdlabakleldgaaaGreatDoor
