/- Tka Math Au Wd Leaf -/
import Derived.WalkKit
import Derived.OrdersHeld
import Derived.Laws.BitsAllLaws
import Derived.Test.YtdlabakleldgaaaGreatDoorProg
import Derived.WalkSpells
import Derived.WalkLawsBesides
import Derived.Deep.QuietTactic
import Derived.BigQuiet
import Derived.Lib.Bytealg
set_option linter.unusedVariables false
set_option linter.unusedSimpArgs false
set_option maxRecDepth 100000
set_option maxHeartbeats 8000000
namespace Go.Proofs.YtdlabakleldgaaaGreatDoor
open Go.RowKit
theorem zH {p:Prop} (h:p):Hid p:=h
theorem zA {α:Type} (l:List α) (i:Nat) (a:α):l.toArray.setIfInBounds i a=(l.set i a).toArray:=by simp
theorem zB {α:Type} (a b:α) (l:List α):(a::l).set 0 b=b::l:=rfl
theorem zC {α:Type} (a b:α) (l:List α) (n:Nat):(a::l).set (n+1) b=a::l.set n b:=rfl
theorem tk {P:Program} {ops:Array Oper} {Q:Exit→Act→World→Prop} {md:Region.Mode} {S:World→Prop} {i:Nat} {oi:Oper} {v:Value} {fuel:Nat} {listed:Array Bool} {a:Act} {w:World} (hi:ops[i]?=some oi) (hy:YieldsIf P ops S oi v a) (h:wpAnyH P md ops Q S fuel (listed.setIfInBounds i true) (a.put oi.dst v) w) (hs:Region.noSelect ops=true:=by kernel_rfl) (hf:Region.free md ops listed i=true:=by kernel_rfl) (hr:(Region.ready md ops listed).contains i=true:=by kernel_rfl) (hQ:∀c a w,Q (.panic c) (a.put oi.dst v) w→Q (.panic c) a w:=by exact fun _ _ _ h=>h) (hS:S w:=by assumption):wpAnyH P md ops Q S (fuel+1) listed a w:=wpAnyH_take hi hs hf hr hQ hy hS h
theorem bQ {P:Program} {ops:Array Oper} {Q:Exit→Act→World→Prop} {md:Region.Mode} {S:World→Prop} {i:Nat} {oi:Oper} {v:Value} {fuel:Nat} {listed:Array Bool} {a:Act} {w:World} (hi:ops[i]?=some oi) (h:wpAnyH P md ops Q S fuel (listed.setIfInBounds i true) (a.put oi.dst v) w) (hy:YieldsIf P ops S oi v a:=by exact Or.inl ⟨by rfl,fun w hSw=>by first |(go_simp;done) | go_simp⟩) (hs:Region.noSelect ops=true:=by kernel_rfl) (hf:Region.free md ops listed i=true:=by kernel_rfl) (hr:(Region.ready md ops listed).contains i=true:=by kernel_rfl) (hQ:∀c a w,Q (.panic c) (a.put oi.dst v) w→Q (.panic c) a w:=by exact fun _ _ _ h=>h) (hS:S w:=by assumption):wpAnyH P md ops Q S (fuel+1) listed a w:=wpAnyH_take hi hs hf hr hQ hy hS h
theorem fU {P:Program} {ops:Array Oper} {Q:Exit→Act→World→Prop} {md:Region.Mode} {S:World→Prop} {i:Nat} {oi:Oper} {v:Value} {fuel:Nat} {listed:Array Bool} {a:Act} {w:World} (hi:ops[i]?=some oi) (h:wpAnyH P md ops Q S fuel (listed.setIfInBounds i true) (a.put oi.dst v) w) (hy:YieldsIf P ops S oi v a:=by exact Or.inl ⟨by rfl,fun w hSw=>by (obtain⟨y0,y1,y2,y3,y4⟩:=hSw;first |(go_simp;done) | go_simp)⟩) (hs:Region.noSelect ops=true:=by kernel_rfl) (hf:Region.free md ops listed i=true:=by kernel_rfl) (hr:(Region.ready md ops listed).contains i=true:=by kernel_rfl) (hQ:∀c a w,Q (.panic c) (a.put oi.dst v) w→Q (.panic c) a w:=by exact fun _ _ _ h=>h) (hS:S w:=by assumption):wpAnyH P md ops Q S (fuel+1) listed a w:=wpAnyH_take hi hs hf hr hQ hy hS h
theorem qD {P:Program} {ops:Array Oper} {Q:Exit→Act→World→Prop} {md:Region.Mode} {S:World→Prop} {i:Nat} {oi:Oper} {v:Value} {fuel:Nat} {listed:Array Bool} {a:Act} {w:World} (hi:ops[i]?=some oi) (h:wpAnyH P md ops Q S fuel (listed.setIfInBounds i true) (a.put oi.dst v) w) (hy:YieldsIf P ops S oi v a:=by exact Or.inl ⟨by rfl,fun w hSw=>by obtain⟨⟨y0,y1⟩,⟨y2,y3⟩,y4,y5⟩:=hSw;first |(go_simp;done) | go_simp⟩) (hs:Region.noSelect ops=true:=by kernel_rfl) (hf:Region.free md ops listed i=true:=by kernel_rfl) (hr:(Region.ready md ops listed).contains i=true:=by kernel_rfl) (hQ:∀c a w,Q (.panic c) (a.put oi.dst v) w→Q (.panic c) a w:=by exact fun _ _ _ h=>h) (hS:S w:=by assumption):wpAnyH P md ops Q S (fuel+1) listed a w:=wpAnyH_take hi hs hf hr hQ hy hS h
theorem D7 {P:Program} {ops:Array Oper} {Q:Exit→Act→World→Prop} {md:Region.Mode} {S:World→Prop} {i:Nat} {oi:Oper} {v:Value} {fuel:Nat} {listed:Array Bool} {a:Act} {w:World} (hi:ops[i]?=some oi) (h:wpAnyH P md ops Q S fuel (listed.setIfInBounds i true) (a.put oi.dst v) w) (hy:YieldsIf P ops S oi v a:=by exact Or.inl ⟨by rfl,fun w hSw=>by obtain⟨⟨y0,y1,y2,y3,y4⟩,⟨y5,y6⟩,y7,y8⟩:=hSw;first |(go_simp;done) | go_simp⟩) (hs:Region.noSelect ops=true:=by kernel_rfl) (hf:Region.free md ops listed i=true:=by kernel_rfl) (hr:(Region.ready md ops listed).contains i=true:=by kernel_rfl) (hQ:∀c a w,Q (.panic c) (a.put oi.dst v) w→Q (.panic c) a w:=by exact fun _ _ _ h=>h) (hS:S w:=by assumption):wpAnyH P md ops Q S (fuel+1) listed a w:=wpAnyH_take hi hs hf hr hQ hy hS h
theorem Ii {P:Program} {ops:Array Oper} {Q:Exit→Act→World→Prop} {md:Region.Mode} {S:World→Prop} {i:Nat} {oi:Oper} {v:Value} {fuel:Nat} {listed:Array Bool} {a:Act} {w:World} (hi:ops[i]?=some oi) (h:wpAnyH P md ops Q S fuel (listed.setIfInBounds i true) (a.put oi.dst v) w) (hy:YieldsIf P ops S oi v a:=by exact Or.inl ⟨by rfl,fun w hSw=>by obtain⟨y0,y1,y2,y3⟩:=hSw;first |(go_simp;done) | go_simp⟩) (hs:Region.noSelect ops=true:=by kernel_rfl) (hf:Region.free md ops listed i=true:=by kernel_rfl) (hr:(Region.ready md ops listed).contains i=true:=by kernel_rfl) (hQ:∀c a w,Q (.panic c) (a.put oi.dst v) w→Q (.panic c) a w:=by exact fun _ _ _ h=>h) (hS:S w:=by assumption):wpAnyH P md ops Q S (fuel+1) listed a w:=wpAnyH_take hi hs hf hr hQ hy hS h
end Go.Proofs.YtdlabakleldgaaaGreatDoor
namespace Go.Proofs.YtdlabakleldgaaaGreatDoor
namespace Rl
abbrev Str:=List UInt8
def sw (c:UInt8):Bool:=(decide (97≤c.toNat) && decide (c.toNat≤122)) ||(decide (65≤c.toNat) && decide (c.toNat≤90)) ||(decide (48≤c.toNat) && decide (c.toNat≤57)) || decide (c.toNat=95)
def blk:Bool→Str→Nat
 | _,[]=>0
 | r,c::cs=>if c.toNat=10 then 1+blk false cs else if r=true∨c.toNat=32∨c.toNat=9∨c.toNat=13 then 1+blk r cs else if c.toNat=35 then 1+blk true cs else 0
def jR:Str→Nat
 | []=>0
 | c::cs=>if sw c=true then 1+jR cs else 0
def signs:Str:=[40,41,91,93,94,124,42,43,63,46,59,47,61]
def nx (l:Str) (i:Nat):Nat:=i+blk false (l.drop i)
def ic (r:Str):Nat:=if 0 < jR r then jR r else match r with | []=>0 | c::_=>if signs.contains c=true then 1 else 0
structure Tk where
 text:Str
 at':Nat
 bad:Bool
 deriving DecidableEq
def tk (l:Str) (i:Nat):Tk:=⟨(l.drop (nx l i)).take (ic (l.drop (nx l i))),nx l i,decide (l.drop (nx l i)≠[]∧ic (l.drop (nx l i))=0)⟩
def jg (l:Str):Nat→List Tk→Prop
 | _,[]=>False
 | i,t::ts=>t=tk l i∧(if t.text=[] then ts=[] else jg l (t.at'+t.text.length) ts)
theorem xI:∀(r:Bool) (l:Str),blk r l≤l.length
 | _,[]=>Nat.le_refl _
 | r,c::cs=>by
  have h1:=xI false cs
  have h2:=xI r cs
  have h3:=xI true cs
  unfold blk
  simp only [List.length_cons]
  split
  ·omega
  ·split
   ·omega
   ·split <;> omega
theorem BQ:∀l:Str,jR l≤l.length
 | []=>Nat.le_refl _
 | c::cs=>by
  have h1:=BQ cs
  unfold jR
  simp only [List.length_cons]
  split <;> omega
theorem xJ (l:Str):ic l≤l.length:=by
 unfold ic
 split
 ·exact BQ l
 ·cases l with
  | nil=>simp
  | cons c cs=>simp only [List.length_cons];split <;> omega
theorem Pn (l:Str) (i:Nat) (h:i≤l.length):nx l i≤l.length:=by
 unfold nx
 have:=xI false (l.drop i)
 rw [List.length_drop] at this
 omega
theorem IG (l:Str) (i:Nat):i≤nx l i:=Nat.le_add_right _ _
theorem j5 (r:Bool) (c:UInt8) (cs:Str):blk r (c::cs)=if c.toNat=10 then 1+blk false cs else if r=true∨c.toNat=32∨c.toNat=9∨c.toNat=13 then 1+blk r cs else if c.toNat=35 then 1+blk true cs else 0:=rfl
theorem iU (c:UInt8) (cs:Str):jR (c::cs)=if sw c=true then 1+jR cs else 0:=rfl
theorem oJ:∀(r:Bool) (l:Str),blk false (l.drop (blk r l))=0
 | r,[]=>by simp [blk]
 | r,c::cs=>by
  have h1:=oJ false cs
  have h2:=oJ r cs
  have h3:=oJ true cs
  rw [j5 r c cs]
  split
  ·rw [Nat.add_comm,List.drop_succ_cons];exact h1
  ·split
   ·rw [Nat.add_comm,List.drop_succ_cons];exact h2
   ·split
    ·rw [Nat.add_comm,List.drop_succ_cons];exact h3
    ·rename_i a b d
     rw [List.drop_zero]
     rw [j5,if_neg a,if_neg (fun h=>b (h.elim (fun h=>absurd h (by simp)) Or.inr)),if_neg d]
theorem MU (l:Str) (i:Nat):nx l (nx l i)=nx l i:=by
 have:=oJ false (l.drop i)
 rw [List.drop_drop] at this
 show nx l i+blk false (l.drop (nx l i))=nx l i
 unfold nx
 rw [this];rfl
theorem Ux (l:Str) (i:Nat):tk l (nx l i)=tk l i:=by unfold tk;rw [MU]
theorem MV {l:Str} {i:Nat} {ts:List Tk} (h:jg l i ts):jg l (nx l i) ts:=by
 cases ts with
 | nil=>exact h
 | cons t ts=>exact⟨h.1.trans (Ux l i).symm,h.2⟩
theorem BR (l:Str) (i:Nat):(tk l i).text.length=ic (l.drop (nx l i)):=by
 show ((l.drop (nx l i)).take _).length=_
 rw [List.length_take]
 have:=xJ (l.drop (nx l i))
 omega
theorem xK (l:Str) (i:Nat) (h:i≤l.length):(tk l i).at'+(tk l i).text.length≤l.length:=by
 rw [BR]
 have h1:=xJ (l.drop (nx l i))
 rw [List.length_drop] at h1
 have h2:=Pn l i h
 show nx l i+_≤_
 omega
theorem qE (l:Str):∀(n i:Nat),l.length - i < n→i≤l.length→∃ts,jg l i ts
 | 0,_,h,_=>absurd h (Nat.not_lt_zero _)
 | n+1,i,h,hi=>by
  by_cases e:(tk l i).text=[]
  ·exact⟨[tk l i],rfl,by rw [if_pos e]⟩
  ·have h1:=xK l i hi
   have h2:0 <(tk l i).text.length:=List.length_pos_iff.2 e
   have h3:i≤(tk l i).at':=IG l i
   obtain⟨ts,h4⟩:=qE l n ((tk l i).at'+(tk l i).text.length) (by omega) h1
   exact⟨tk l i::ts,rfl,by rw [if_neg e];exact h4⟩
theorem eG {l:Str} {i:Nat} {t:Tk} {ts:List Tk} (h:jg l i (t::ts)) (he:t.text≠[]):jg l (t.at'+t.text.length) ts:=by
 have:=h.2
 rw [if_neg he] at this
 exact this
theorem sQ {l:Str} {i:Nat} {t:Tk} {ts:List Tk} (h:jg l i (t::ts)):t.at'=nx l i:=by rw [h.1];rfl
inductive Ex where
 | mk (op set:Int) (kids:List Ex)
abbrev Ft:=Nat × Nat
abbrev R (α:Type):=Except Ft α
abbrev Env:=List (Str × Int)
def find:Env→Str→Option Int
 | [],_=>none
 |(s,b)::E,x=>if s=x then some b else find E x
def fe (t:Tk):Bool:=decide (0 < jR t.text)
def sS (t:Tk):Bool:=fe t || decide (t.text=[46]) || decide (t.text=[91]) || decide (t.text=[40])
def gu (a b:Int):Int:=bits .or .u32 a b
def without (a b:Int):Int:=bits .andNot .u32 a b
def whole (n:Nat):Int:=2 ^ n - 1
def took (c:UInt8):List Tk→R (Bool × List Tk)
 | []=>.error (0,0)
 | t::ts=>if t.bad=true then .error (20,t.at') else if t.text=[c] then .ok (true,ts) else .ok (false,t::ts)
def want (c:UInt8):List Tk→R (List Tk)
 | []=>.error (0,0)
 | t::ts=>if t.bad=true then .error (20,t.at') else if t.text=[c] then .ok ts else .error (21,t.at')
def names (E:Env):List Tk→Int→R (Int × List Tk)
  | [],_=>.error (0,0)
  | t :: ts, acc => if t.bad = true then .error (20, t.at') else if fe t = true then
      match find E t.text with
      | none=>.error (22,t.at')
      | some b=>names E ts (gu acc b)
    else .ok (acc,t::ts)
def fq (E:Env) (nc:Nat):List Tk→Nat→R (Int × List Tk × Nat)
  | [],_=>.error (0,0)
  | t :: ts, p => if p = 200 then .error (26, t.at') else if t.text = [46] then .ok (whole nc, ts, p + 1) else if t.text = [91] then
      match took 94 ts with
      | .error f=>.error f
      | .ok (no,bK)=>match names E bK 0 with
        | .error f=>.error f
        | .ok (b,dC)=>match want 93 dC with
          | .error f=>.error f
          | .ok qF=>.ok (if no=true then without (whole nc) b else b,qF,p+1)
    else match find E t.text with
      | none=>.error (22,t.at')
      | some b=>.ok (b,ts,p+1)
def often (e:Ex):List Tk→R (Ex × List Tk)
 | []=>.error (0,0)
 | t::ts=>if t.bad=true then .error (20,t.at') else if t.text=[42] then .ok (.mk 4 0 [e],ts) else if t.text=[43] then .ok (.mk 5 0 [e],ts) else if t.text=[63] then .ok (.mk 6 0 [e],ts) else .ok (e,t::ts)
def mO:List Ex→Ex
 | [e]=>e
 | l=>.mk 3 0 l
def mkSeq:List Ex→Ex
 | []=>.mk 0 0 []
 | [e]=>e
 | l=>.mk 2 0 l
mutual
def either (E:Env) (nc:Nat):Nat→Nat→List Tk→Nat→R (Ex × List Tk × Nat)
 | 0,_,_,_=>.error (0,0)
 | n+1,d,ts,p=>match row E nc n d ts p [] with
  | .error f=>.error f
  | .ok (e,bK,p1)=>alts E nc n d bK p1 [e]
def alts (E:Env) (nc:Nat):Nat→Nat→List Tk→Nat→List Ex→R (Ex × List Tk × Nat)
 | 0,_,_,_,_=>.error (0,0)
 | n+1,d,ts,p,l=>match took 124 ts with
  | .error f=>.error f
  | .ok (false,bK)=>.ok (mO l,bK,p)
  | .ok (true,bK)=>match row E nc n d bK p [] with
   | .error f=>.error f
   | .ok (e,dC,p2)=>alts E nc n d dC p2 (l++[e])
def row (E:Env) (nc:Nat):Nat→Nat→List Tk→Nat→List Ex→R (Ex × List Tk × Nat)
  | 0,_,_,_,_=>.error (0,0)
  | n+1,d,ts,p,l=>match ts with
    | []=>.error (0,0)
    | t :: Po => if t.bad = true then .error (20, t.at') else if sS t = true then
        match thing E nc n d (t::Po) p with
        | .error f=>.error f
        | .ok (e,bK,p1)=>match often e bK with
          | .error f=>.error f
          | .ok (e2,dC)=>row E nc n d dC p1 (l++[e2])
      else .ok (mkSeq l,t::Po,p)
def thing (E:Env) (nc:Nat):Nat→Nat→List Tk→Nat→R (Ex × List Tk × Nat)
  | 0,_,_,_=>.error (0,0)
  | n+1,d,ts,p=>match ts with
    | []=>.error (0,0)
    | t :: Po => if t.text = [40] then
        if d=16 then .error (25,t.at') else match either E nc n (d+1) Po p with
          | .error f=>.error f
          | .ok (e,bK,p1)=>match want 41 bK with
            | .error f=>.error f
            | .ok dC=>.ok (e,dC,p1)
      else match fq E nc (t::Po) p with
        | .error f=>.error f
        | .ok (b,bK,p1)=>.ok (.mk 1 b [],bK,p1)
end
structure fD where
 does:Int
 left:Ex
 right:Ex
structure St where
 cls:List Str
 au:List Int
 join:Int
 after:Int
 env:Env
 places:Nat
 list:List fD
def st0:St:=⟨[],[],0,0,[],0,[]⟩
def place (c:List Str) (s:Str):Option Nat:=if s∈c then some (c.idxOf s) else none
def addClass (s:St) (x:Str):St:={ s with cls:=s.cls++[x],au:=s.au++[(s.cls.length:Int)],env:=s.env++[(x,2 ^ s.cls.length)]}
def classes:List Tk→St→R (List Tk × St)
  | [],_=>.error (0,0)
  | t :: ts, s => if t.bad = true then .error (20, t.at') else if fe t = true then
      if (find s.env t.text).isSome=true then .error (23,t.at') else if s.cls.length=24 then .error (24,t.at') else classes ts (addClass s t.text)
    else .ok (t::ts,s)
def name:List Tk→R (Tk × List Tk)
 | []=>.error (0,0)
 | t::ts=>if t.bad=true then .error (20,t.at') else if fe t=true then .ok (t,ts) else .error (21,t.at')
def fresh (E:Env) (ts:List Tk):R (Tk × List Tk):=
 match name ts with
 | .error f=>.error f
 | .ok (t,bK)=>if (find E t.text).isSome=true then .error (23,t.at') else .ok (t,bK)
def set' (ts:List Tk) (s:St):R (List Tk × St):=
 match fresh s.env ts with
 | .error f=>.error f
 | .ok (t,bK)=>match want 61 bK with
  | .error f=>.error f
  | .ok dC=>match names s.env dC 0 with
   | .error f=>.error f
   | .ok (b,qF)=>.ok (qF,{ s with env:=s.env++[(t.text,b)]})
def join' (ts:List Tk) (s:St):R (List Tk × St):=
 match names s.env ts 0 with
 | .error f=>.error f
 | .ok (b,bK)=>match want 47 bK with
  | .error f=>.error f
  | .ok dC=>match names s.env dC 0 with
   | .error f=>.error f
   | .ok (c,qF)=>.ok (qF,{ s with join:=gu s.join b,after:=gu s.after c})
def placeOf (C:List Str) (ts:List Tk):R (Nat × List Tk):=
 match name ts with
 | .error f=>.error f
 | .ok (t,bK)=>match place C t.text with
  | none=>.error (22,t.at')
  | some k=>.ok (k,bK)
def dV (ts:List Tk) (s:St):R (List Tk × St):=
 match placeOf s.cls ts with
 | .error f=>.error f
 | .ok (k,bK)=>match want 61 bK with
  | .error f=>.error f
  | .ok dC=>match placeOf s.cls dC with
   | .error f=>.error f
   | .ok (m,qF)=>.ok (qF,{ s with au:=s.au.set k (m:Int)})
def fuel (ts:List Tk):Nat:=4*ts.length+8
def bV (does:Int) (at':Nat) (ts:List Tk) (s:St):R (List Tk × St):=
 if s.list.length=24 then .error (24,at') else match either s.env s.cls.length (fuel ts) 0 ts s.places with
  | .error f=>.error f
  | .ok (a,bK,p1)=>match want 47 bK with
   | .error f=>.error f
   | .ok dC=>match either s.env s.cls.length (fuel dC) 0 dC p1 with
    | .error f=>.error f
    | .ok (b,qF,p3)=>.ok (qF,{ s with places:=p3,list:=s.list++[⟨does,a,b⟩]})
def j6:Str:=[99,108,97,115,115]
def II:Str:=[115,101,116]
def j_:Str:=[106,111,105,110]
def fE:Str:=[116,114,101,97,116]
def tQ:Str:=[107,101,101,112]
def BS:Str:=[109,97,121]
def tT:Str:=[109,117,115,116]
def line (t:Tk) (ts:List Tk) (s:St):R (List Tk × St):=
 if t.text=j6 then classes ts s else if t.text=II then set' ts s else if t.text=j_ then join' ts s else if t.text=fE then dV ts s
 else if t.text=tQ then bV 0 t.at' ts s else if t.text=BS then bV 1 t.at' ts s else if t.text=tT then bV 2 t.at' ts s else .error (21,t.at')
def lines:Nat→List Tk→St→R St
 | 0,_,_=>.error (0,0)
 | _+1,[],_=>.error (0,0)
 | n+1,t::ts,s=>if t.bad=true then .error (20,t.at') else if t.text=[] then .ok s else match line t ts s with
  | .error f=>.error f
  | .ok (bK,s1)=>match want 59 bK with
   | .error f=>.error f
   | .ok dC=>lines n dC s1
end Rl
namespace Au
open Rl (Ex)
structure Nd where
 none:Bool
 first:Nat
 last:Nat
structure Pl where
 sets:List Int
 next:Nat→Nat
def MW:Pl:=⟨[],fun _=>0⟩
def chain (p:Pl) (behind nx:Nat):Pl:={ p with next:=fun i=>if behind.testBit i=true then p.next i ||| nx else p.next i}
def seq1 (o x:Nd):Nd:=⟨o.none && x.none,if o.none=true then o.first ||| x.first else o.first,if x.none=true then o.last ||| x.last else x.last⟩
def sD (o x:Nd):Nd:=⟨o.none || x.none,o.first ||| x.first,o.last ||| x.last⟩
mutual
def node:Ex→Pl→Option (Nd × Pl)
 | .mk op set kids,p=>
  if op=1 then (if p.sets.length=200 then none else some (⟨false,2 ^ p.sets.length,2 ^ p.sets.length⟩,{ p with sets:=p.sets++[set]}))
  else if op=2 then qG kids ⟨true,0,0⟩ p
  else if op=3 then alts kids ⟨false,0,0⟩ p
  else if op=4 then (match one kids p with | none=>none | some (x,p1)=>some (⟨true,x.first,x.last⟩,chain p1 x.last x.first))
  else if op=5 then (match one kids p with | none=>none | some (x,p1)=>some (x,chain p1 x.last x.first))
  else if op=6 then (match one kids p with | none=>none | some (x,p1)=>some (⟨true,x.first,x.last⟩,p1))
  else some (⟨true,0,0⟩,p)
def qG:List Ex→Nd→Pl→Option (Nd × Pl)
 | [],o,p=>some (o,p)
 | e::es,o,p=>match node e p with
  | none=>none
  | some (x,p1)=>qG es (seq1 o x) (chain p1 o.last x.first)
def alts:List Ex→Nd→Pl→Option (Nd × Pl)
 | [],o,p=>some (o,p)
 | e::es,o,p=>match node e p with
  | none=>none
  | some (x,p1)=>alts es (sD o x) p1
def one:List Ex→Pl→Option (Nd × Pl)
 | [],p=>some (⟨false,0,0⟩,p)
 | e::_,p=>node e p
end
mutual
def cnt:Ex→Nat
 | .mk op set kids=>if op=1 then 1 else if op=2∨op=3 then vG kids else if op=4∨op=5∨op=6 then cnt1 kids else 0
def vG:List Ex→Nat
 | []=>0
 | e::es=>cnt e+vG es
def cnt1:List Ex→Nat
 | []=>0
 | e::_=>cnt e
end
def all:List Ex→List Nd→Pl→Option (List Nd × Pl)
 | [],l,p=>some (l,p)
 | e::es,l,p=>match node e p with
  | none=>none
  | some (x,p1)=>all es (l++[x]) p1
def may (p:Pl) (first s:Nat):Nat:=(List.range p.sets.length).foldl (fun m i=>if s.testBit i=true then m ||| p.next i else m) first
def by' (p:Pl) (c:Nat):Nat:=(List.range p.sets.length).foldl (fun m i=>if (p.sets[i]?.getD 0) / 2 ^ c % 2=1 then m ||| 2 ^ i else m) 0
def out (l:List Nd) (s:Nat):Nat:=(List.range l.length).foldl (fun m r=>match l[r]? with | some x=>if x.none=true∨s &&& x.last≠0 then m ||| 2 ^ r else m | none=>m) 0
def ways (p:Pl) (m:Nat):List Nat→List Nat→List Nat→Option (List Nat × List Nat)
 | [],found,w=>some (found,w)
 | c::cs,found,w=>
  if m &&& by' p c∈found then ways p m cs found (w++[found.idxOf (m &&& by' p c)])
  else if found.length=300 then none
  else ways p m cs (found++[m &&& by' p c]) (w++[found.length])
def states (p:Pl) (l:List Nd) (first classes:Nat):Nat→Nat→List Nat→List (List Nat)→List Nat→Option (List (List Nat) × List Nat)
 | 0,_,_,nx,o=>some (nx,o)
 | f+1,n,found,nx,o=>match found[n]? with
  | none=>some (nx,o)
  | some s=>match ways p (may p first s) (List.range classes) found [] with
   | none=>none
   | some (aj,w)=>states p l first classes f (n+1) aj (nx++[w]) (o++[out l s])
def make (l:List Ex) (classes:Int):Except Nat (List (List Nat) × List Nat):=
 if classes < 1∨24 < classes∨24 < l.length then .error 1 else match all l [] MW with
  | none=>.error 2
  | some (nd,p)=>match states p nd (nd.foldl (fun m x=>m ||| x.first) 0) classes.toNat 301 0 [0] [] [] with
   | none=>.error 3
   | some r=>.ok r
theorem qH (p:Pl) (a b:Nat):(chain p a b).sets=p.sets:=rfl
theorem IJ:(∀(e:Ex) (p:Pl),p.sets.length≤200→(match node e p with | none=>200 < p.sets.length+cnt e | some (_,p1)=>p1.sets.length=p.sets.length+cnt e∧p1.sets.length≤200)):=by
 intro e
 apply Ex.rec (motive_1:=fun e=>∀(p:Pl),p.sets.length≤200→(match node e p with | none=>200 < p.sets.length+cnt e | some (_,p1)=>p1.sets.length=p.sets.length+cnt e∧p1.sets.length≤200))
  (motive_2:=fun es=>(∀(o:Nd) (p:Pl),p.sets.length≤200→(match qG es o p with | none=>200 < p.sets.length+vG es | some (_,p1)=>p1.sets.length=p.sets.length+vG es∧p1.sets.length≤200))∧(∀(o:Nd) (p:Pl),p.sets.length≤200→(match alts es o p with | none=>200 < p.sets.length+vG es | some (_,p1)=>p1.sets.length=p.sets.length+vG es∧p1.sets.length≤200))∧(∀(p:Pl),p.sets.length≤200→(match one es p with | none=>200 < p.sets.length+cnt1 es | some (_,p1)=>p1.sets.length=p.sets.length+cnt1 es∧p1.sets.length≤200)))
 ·intro op set kids ⟨h1,h2,h3⟩ p hp
  unfold node cnt
  by_cases o1:op=1
  ·rw [if_pos o1,if_pos o1]
   by_cases hf:p.sets.length=200
   ·rw [if_pos hf]
    show 200 < p.sets.length+1
    omega
   ·rw [if_neg hf]
    show (p.sets++[set]).length=p.sets.length+1∧(p.sets++[set]).length≤200
    have e:(p.sets++[set]).length=p.sets.length+1:=by simp
    rw [e]
    exact⟨rfl,by omega⟩
  rw [if_neg o1,if_neg o1]
  by_cases o2:op=2
  ·rw [if_pos o2,if_pos (Or.inl o2)];exact h1 _ p hp
  rw [if_neg o2]
  by_cases o3:op=3
  ·rw [if_pos o3,if_pos (Or.inr o3)];exact h2 _ p hp
  rw [if_neg o3,if_neg (show ¬(op=2∨op=3) by omega)]
  have h3:=h3 p hp
  by_cases o4:op=4
  ·rw [if_pos o4,if_pos (show op=4∨op=5∨op=6 from Or.inl o4)]
   cases h:one kids p with
   | none=>rw [h] at h3;exact h3
   | some r=>rw [h] at h3;exact h3
  rw [if_neg o4]
  by_cases o5:op=5
  ·rw [if_pos o5,if_pos (show op=4∨op=5∨op=6 from Or.inr (Or.inl o5))]
   cases h:one kids p with
   | none=>rw [h] at h3;exact h3
   | some r=>rw [h] at h3;exact h3
  rw [if_neg o5]
  by_cases o6:op=6
  ·rw [if_pos o6,if_pos (show op=4∨op=5∨op=6 from Or.inr (Or.inr o6))]
   cases h:one kids p with
   | none=>rw [h] at h3;exact h3
   | some r=>rw [h] at h3;exact h3
  rw [if_neg o6,if_neg (show ¬(op=4∨op=5∨op=6) by omega)]
  exact⟨rfl,hp⟩
 ·refine⟨fun o p hp=>?_,fun o p hp=>?_,fun p hp=>?_⟩
  ·simp only [qG,vG];exact⟨rfl,hp⟩
  ·simp only [alts,vG];exact⟨rfl,hp⟩
  ·simp only [one,cnt1];exact⟨rfl,hp⟩
 ·intro e es he ⟨h1,h2,h3⟩
  refine⟨fun o p hp=>?_,fun o p hp=>?_,fun p hp=>?_⟩
  ·have he:=he p hp
   simp only [qG,vG]
   cases h:node e p with
   | none=>rw [h] at he;simp only at he ⊢;omega
   | some r=>
    obtain⟨x,p1⟩:=r
    rw [h] at he
    simp only at he ⊢
    have k:=h1 (seq1 o x) (chain p1 o.last x.first) (by rw [qH];exact he.2)
    rw [qH] at k
    cases h5:qG es (seq1 o x) (chain p1 o.last x.first) with
    | none=>rw [h5] at k;simp only at k ⊢;omega
    | some r2=>rw [h5] at k;obtain⟨_,p2⟩:=r2;simp only at k ⊢;omega
  ·have he:=he p hp
   simp only [alts,vG]
   cases h:node e p with
   | none=>rw [h] at he;simp only at he ⊢;omega
   | some r=>
    obtain⟨x,p1⟩:=r
    rw [h] at he
    simp only at he ⊢
    have k:=h2 (sD o x) p1 he.2
    cases h5:alts es (sD o x) p1 with
    | none=>rw [h5] at k;simp only at k ⊢;omega
    | some r2=>rw [h5] at k;obtain⟨_,p2⟩:=r2;simp only at k ⊢;omega
  ·simp only [one,cnt1]
   exact he p hp
def rJ (p:Pl):Prop:=∀i,p.next i < 2 ^ p.sets.length∧(p.sets.length≤i→p.next i=0)
def mF (p:Pl) (x:Nd):Prop:=x.first < 2 ^ p.sets.length∧x.last < 2 ^ p.sets.length
theorem rJ.chain {p:Pl} (h:rJ p) {a b:Nat} (ha:a < 2 ^ p.sets.length) (hb:b < 2 ^ p.sets.length):rJ (chain p a b):=by
 intro i
 show (if a.testBit i=true then p.next i ||| b else p.next i) < 2 ^ p.sets.length∧(p.sets.length≤i→(if a.testBit i=true then p.next i ||| b else p.next i)=0)
 obtain⟨h1,h2⟩:=h i
 by_cases e:a.testBit i=true
 ·rw [if_pos e]
  refine⟨Nat.or_lt_two_pow h1 hb,fun hi=>?_⟩
  have:a.testBit i=false:=Nat.testBit_lt_two_pow (Nat.lt_of_lt_of_le ha (Nat.pow_le_pow_right (by decide) hi))
  rw [this] at e
  cases e
 ·rw [if_neg e]
  exact⟨h1,h2⟩
theorem kg {a b:Nat} (h:a≤b):2 ^ a≤2 ^ b:=Nat.pow_le_pow_right (by decide) h
theorem MX:∀(e:Ex) (p:Pl),rJ p→∀x p1,node e p=some (x,p1)→rJ p1∧mF p1 x∧p.sets.length≤p1.sets.length:=by
 intro e
 apply Ex.rec (motive_1:=fun e=>∀(p:Pl),rJ p→∀x p1,node e p=some (x,p1)→rJ p1∧mF p1 x∧p.sets.length≤p1.sets.length)
  (motive_2:=fun es=>(∀(o:Nd) (p:Pl),rJ p→mF p o→∀x p1,qG es o p=some (x,p1)→rJ p1∧mF p1 x∧p.sets.length≤p1.sets.length)∧(∀(o:Nd) (p:Pl),rJ p→mF p o→∀x p1,alts es o p=some (x,p1)→rJ p1∧mF p1 x∧p.sets.length≤p1.sets.length)∧(∀(p:Pl),rJ p→∀x p1,one es p=some (x,p1)→rJ p1∧mF p1 x∧p.sets.length≤p1.sets.length))
 ·intro op set kids ⟨h1,h2,h3⟩ p hp x p1 h
  have z0:mF p ⟨true,0,0⟩:=⟨Nat.two_pow_pos _,Nat.two_pow_pos _⟩
  have z1:mF p ⟨false,0,0⟩:=⟨Nat.two_pow_pos _,Nat.two_pow_pos _⟩
  unfold node at h
  split at h
  ·split at h
   ·cases h
   ·injection h with h
    injection h with hx hp1
    subst hx hp1
    have e:(p.sets++[set]).length=p.sets.length+1:=by simp
    refine⟨fun i=>?_,?_,?_⟩
    ·obtain⟨a,b⟩:=hp i
     show p.next i < 2 ^(p.sets++[set]).length∧((p.sets++[set]).length≤i→p.next i=0)
     rw [e]
     exact⟨Nat.lt_of_lt_of_le a (kg (by omega)),fun hi=>b (by omega)⟩
    ·show 2 ^ p.sets.length < 2 ^(p.sets++[set]).length∧2 ^ p.sets.length < 2 ^(p.sets++[set]).length
     rw [e,Nat.pow_succ]
     have:=Nat.two_pow_pos p.sets.length
     omega
    ·show p.sets.length≤(p.sets++[set]).length
     omega
  ·split at h
   ·exact h1 _ p hp z0 x p1 h
   ·split at h
    ·exact h2 _ p hp z1 x p1 h
    ·split at h
     ·cases ho:one kids p with
      | none=>rw [ho] at h;cases h
      | some r=>
       obtain⟨y,p2⟩:=r
       rw [ho] at h
       obtain⟨a,b,c⟩:=h3 p hp y p2 ho
       injection h with h
       injection h with hx hp1
       subst hx hp1
       exact⟨a.chain b.2 b.1,b,c⟩
     ·split at h
      ·cases ho:one kids p with
       | none=>rw [ho] at h;cases h
       | some r=>
        obtain⟨y,p2⟩:=r
        rw [ho] at h
        obtain⟨a,b,c⟩:=h3 p hp y p2 ho
        injection h with h
        injection h with hx hp1
        subst hx hp1
        exact⟨a.chain b.2 b.1,b,c⟩
      ·split at h
       ·cases ho:one kids p with
        | none=>rw [ho] at h;cases h
        | some r=>
         obtain⟨y,p2⟩:=r
         rw [ho] at h
         obtain⟨a,b,c⟩:=h3 p hp y p2 ho
         injection h with h
         injection h with hx hp1
         subst hx hp1
         exact⟨a,b,c⟩
       ·injection h with h
        injection h with hx hp1
        subst hx hp1
        exact⟨hp,z0,Nat.le_refl _⟩
 ·refine⟨fun o p hp ho x p1 h=>?_,fun o p hp ho x p1 h=>?_,fun p hp x p1 h=>?_⟩
  ·simp only [qG] at h
   injection h with h
   injection h with hx hp1
   subst hx hp1
   exact⟨hp,ho,Nat.le_refl _⟩
  ·simp only [alts] at h
   injection h with h
   injection h with hx hp1
   subst hx hp1
   exact⟨hp,ho,Nat.le_refl _⟩
  ·simp only [one] at h
   injection h with h
   injection h with hx hp1
   subst hx hp1
   exact⟨hp,⟨Nat.two_pow_pos _,Nat.two_pow_pos _⟩,Nat.le_refl _⟩
 ·intro e es he ⟨h1,h2,h3⟩
  refine⟨fun o p hp ho x p1 h=>?_,fun o p hp ho x p1 h=>?_,fun p hp x p1 h=>?_⟩
  ·simp only [qG] at h
   cases hn:node e p with
   | none=>rw [hn] at h;cases h
   | some r=>
    obtain⟨y,p2⟩:=r
    rw [hn] at h
    obtain⟨a,b,c⟩:=he p hp y p2 hn
    have o2:mF p2 o:=⟨Nat.lt_of_lt_of_le ho.1 (kg c),Nat.lt_of_lt_of_le ho.2 (kg c)⟩
    have o3:mF (chain p2 o.last y.first) (seq1 o y):=by
     unfold seq1 mF
     refine⟨?_,?_⟩
     ·show (if o.none=true then o.first ||| y.first else o.first) < 2 ^ p2.sets.length
      split
      ·exact Nat.or_lt_two_pow o2.1 b.1
      ·exact o2.1
     ·show (if y.none=true then o.last ||| y.last else y.last) < 2 ^ p2.sets.length
      split
      ·exact Nat.or_lt_two_pow o2.2 b.2
      ·exact b.2
    obtain⟨k1,k2,k3⟩:=h1 (seq1 o y) (chain p2 o.last y.first) (a.chain o2.2 b.1) o3 x p1 h
    rw [qH] at k3
    exact⟨k1,k2,Nat.le_trans c k3⟩
  ·simp only [alts] at h
   cases hn:node e p with
   | none=>rw [hn] at h;cases h
   | some r=>
    obtain⟨y,p2⟩:=r
    rw [hn] at h
    obtain⟨a,b,c⟩:=he p hp y p2 hn
    have o2:mF p2 o:=⟨Nat.lt_of_lt_of_le ho.1 (kg c),Nat.lt_of_lt_of_le ho.2 (kg c)⟩
    obtain⟨k1,k2,k3⟩:=h2 (sD o y) p2 a ⟨Nat.or_lt_two_pow o2.1 b.1,Nat.or_lt_two_pow o2.2 b.2⟩ x p1 h
    exact⟨k1,k2,Nat.le_trans c k3⟩
  ·simp only [one] at h
   exact he p hp x p1 h
end Au
def wd (S j:Nat):Nat:=S / 2 ^(64*j) % 18446744073709551616
theorem mP (S j:Nat):wd S j < 18446744073709551616:=Nat.mod_lt _ (by decide)
theorem jh (S j i:Nat):(wd S j).testBit i=(decide (i < 64) && S.testBit (64*j+i)):=by
 unfold wd
 rw [show (18446744073709551616:Nat)=2 ^ 64 from rfl,Nat.testBit_mod_two_pow,Nat.testBit_div_two_pow,Nat.add_comm i]
theorem Uy (A B j:Nat):wd (A ||| B) j=wd A j ||| wd B j:=by
 apply Nat.eq_of_testBit_eq
 intro i
 rw [Nat.testBit_or,jh,jh,jh,Nat.testBit_or]
 cases decide (i < 64) <;> simp
theorem Qx (A B j:Nat):wd (A &&& B) j=wd A j &&& wd B j:=by
 apply Nat.eq_of_testBit_eq
 intro i
 rw [Nat.testBit_and,jh,jh,jh,Nat.testBit_and]
 cases decide (i < 64) <;> simp
theorem Qy (q r j:Nat) (hr:r < 64):wd (2 ^(64*q+r)) j=if q=j then 2 ^ r else 0:=by
 apply Nat.eq_of_testBit_eq
 intro i
 rw [jh,Nat.testBit_two_pow]
 by_cases h:q=j
 ·subst h
  rw [if_pos rfl,Nat.testBit_two_pow]
  by_cases e:r=i
  ·subst e;simp [hr]
  ·have:¬(64*q+r=64*q+i):=by omega
   simp [e,this]
 ·rw [if_neg h]
  by_cases e:i < 64
  ·have:¬(64*q+r=64*j+i):=by omega
   simp [this]
  ·simp [e]
theorem bL (j:Nat):wd 0 j=0:=by simp [wd]
theorem Qz {A B:Nat} (ha:A < 2 ^ 256) (hb:B < 2 ^ 256) (h:∀j,j < 4→wd A j=wd B j):A=B:=by
 apply Nat.eq_of_testBit_eq
 intro i
 by_cases hi:i < 256
 ·have:=congrArg (fun x=>Nat.testBit x (i % 64)) (h (i / 64) (by omega))
  simp only [jh] at this
  rw [decide_eq_true (by omega),Bool.true_and,Bool.true_and,show 64*(i / 64)+i % 64=i by omega] at this
  exact this
 ·rw [Nat.testBit_lt_two_pow (Nat.lt_of_lt_of_le ha (Nat.pow_le_pow_right (by decide) (by omega))),Nat.testBit_lt_two_pow (Nat.lt_of_lt_of_le hb (Nat.pow_le_pow_right (by decide) (by omega)))]
theorem Uz (A B j:Nat):bits .or .u64 (wd A j:Int) (wd B j:Int)=(wd (A ||| B) j:Int):=by
 rw [u64_or_nat _ _ (mP _ _) (mP _ _),Uy]
theorem QA (A B j:Nat):bits .and .u64 (wd A j:Int) (wd B j:Int)=(wd (A &&& B) j:Int):=by
 rw [u64_and_nat _ _ (mP _ _) (mP _ _),Qx]
theorem QB (S q r:Nat) (hr:r < 64):wd S q / 2 ^ r % 2=if S.testBit (64*q+r)=true then 1 else 0:=by
 have h:=jh S q r
 rw [decide_eq_true hr,Bool.true_and] at h
 rw [←h,Nat.testBit_eq_decide_div_mod_eq]
 have:wd S q / 2 ^ r % 2 < 2:=Nat.mod_lt _ (by decide)
 by_cases e:wd S q / 2 ^ r % 2=1
 ·simp [e]
 ·simp [e];omega
end Go.Proofs.YtdlabakleldgaaaGreatDoor
namespace Go.Proofs.YtdlabakleldgaaaGreatDoor
open Go.RowKit
theorem IK (c:UInt8):c.toNat < 256:=c.toNat_lt
theorem ku (c:UInt8) (w:World):Calls Tryz.prog 91 #[.int .u8 (c.toNat:Int)] w fun e w'=>e=.returned (.bool (Rl.sw c))∧w'=w:=by
 obtain⟨n,hn⟩:∃n:Int,n=(c.toNat:Int):=⟨_,rfl⟩
 have HN:=zH hn
 have h0:0≤n:=by omega
 have h1:n < 256:=by have:=IK c;omega
 rw [←hn]
 clear hn
 go_enter Tryz.func91,Tryz.ntmps91
 go_wp2
 all_goals
  go_ret
  have hn:=HN.out
  subst hn
  refine⟨congrArg (fun b=>Ending.returned (.bool b)) (?_:_=Rl.sw c),rfl⟩
  rw [Bool.eq_iff_iff]
  simp [Rl.sw]
  try omega
theorem qI {s:ByteArray} {k:Nat} (h:k < s.size):s.data.toList.drop k=s[k]::s.data.toList.drop (k+1):=by
 have hl:k < s.data.toList.length:=by rw [←Lib.size_eq];exact h
 rw [List.drop_eq_getElem_cons hl]
 rfl
end Go.Proofs.YtdlabakleldgaaaGreatDoor
