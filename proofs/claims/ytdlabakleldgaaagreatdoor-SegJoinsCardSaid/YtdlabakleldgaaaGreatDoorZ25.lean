/- Sga Gl Gl2 Gl3 Gl4 LSw -/
import Derived.Test.YtdlabakleldgaaaGreatDoorZ00
import Derived.Test.YtdlabakleldgaaaGreatDoorZ22
import Derived.Test.YtdlabakleldgaaaGreatDoorZ24
import Derived.Test.YtdlabakleldgaaaGreatDoorZ16
set_option linter.unusedVariables false
set_option linter.unusedSimpArgs false
set_option maxRecDepth 100000
set_option maxHeartbeats 8000000
namespace Go.Proofs.YtdlabakleldgaaaGreatDoor
open Go.RowKit Go.Maps
open Rl (Ex Small)
theorem uF {w:World} {base e size n g c:Nat} {xs:List Value} (h:w.ownsRow base e size (.slice (some ⟨g,0,none⟩) n c) n xs) (i:Nat) (u:Value):(w.setCell ⟨g,i,none⟩ u).ownsRow base e size (.slice (some ⟨g,0,none⟩) n c) n (xs.set i u):=by
 obtain⟨hl,⟨hv,h0⟩ | ⟨g',cap,cur,hv,h1,h2,h3,h4,h5,h6⟩⟩:=h
 ·cases hv
 ·injection hv with e1 e2 e3
  injection e1 with e1
  injection e1 with e1
  subst e1 e3
  refine⟨by rw [List.length_set];exact hl,Or.inr ⟨g,c,cur.setIfInBounds i u,rfl,h1,aa h2 u,h3,h4,by simp [h5],?_⟩⟩
  rw [Array.toList_setIfInBounds,List.take_set,h6]
theorem l_ {w:World} {base e size n g c:Nat} {xs:List Value} (h:w.ownsRow base e size (.slice (some ⟨g,0,none⟩) n c) n xs) {i:Nat} {u:Value} (hu:xs[i]?=some u):w.cell? ⟨g,i,none⟩=some u∧w.frozen? ⟨g,i,none⟩=false∧base≤g∧g < w.heap.size:=by
 obtain⟨hl,⟨hv,h0⟩ | ⟨g',cap,cur,hv,h1,h2,h3,h4,h5,h6⟩⟩:=h
 ·cases hv
 ·injection hv with e1 e2 e3
  injection e1 with e1
  injection e1 with e1
  subst e1 e3
  refine⟨?_,ak h2 i,h1,(Array.getElem?_eq_some_iff.1 h2).1⟩
  rw [ae h2]
  rw [←h6,List.getElem?_take] at hu
  split at hu
  ·rw [Array.getElem?_toList] at hu
   exact hu
  ·cases hu
theorem Sd {w w':World} {base e size n:Nat} {v:Value} {xs:List Value} (h:w.ownsRow base e size v n xs) (ho:Only (fun _=>False) w w'):w'.ownsRow base e size v n xs:=by
 obtain⟨hl,h | ⟨g,cap,cur,hv,h1,h2,h3⟩⟩:=h
 ·exact⟨hl,Or.inl h⟩
 ·exact⟨hl,Or.inr ⟨g,cap,cur,hv,h1,(ho.block g (Array.getElem?_eq_some_iff.1 h2).1 (fun h=>h)).trans h2,h3⟩⟩
def ML (W:World) (rb:Nat) (es:List Ex) (k:Nat) (xs:List Value):Prop:=∀(i:Nat) (e:Ex),i < k→es[i]?=some e→∃o s v,xs[i*3]?=some o∧xs[i*3+1]?=some s∧xs[i*3+2]?=some v∧Te W (fun b=>rb < b∧b < W.heap.size) (Au.turn e) (.agg #[o,s,v])
theorem ML.keep {W W':World} {rb:Nat} {es:List Ex} {k:Nat} {xs:List Value} (h:ML W rb es k xs) (hk:Kp W W' (fun b=>rb < b∧b < W.heap.size)) (hs:W.heap.size≤W'.heap.size):ML W' rb es k xs:=fun i e hi he=>by
 obtain⟨o,s,v,h1,h2,h3,h4⟩:=h i e hi he
 exact⟨o,s,v,h1,h2,h3,Te.keep hk (fun b hb=>⟨hb.1,Nat.lt_of_lt_of_le hb.2 hs⟩) _ _ h4⟩
theorem ML.next {W:World} {rb:Nat} {es:List Ex} {k n:Nat} {xs:List Value} {e:Ex} {o s v:Value} (h:ML W rb es k xs) (hl:xs.length=n*3) (hk:k < n) (he:es[k]?=some e) (ht:Te W (fun b=>rb < b∧b < W.heap.size) (Au.turn e) (.agg #[o,s,v])):ML W rb es (k+1) (((xs.set (k*3) o).set (k*3+1) s).set (k*3+2) v):=fun i e' hi he'=>by
 by_cases q:i=k
 ·subst q
  rw [he] at he'
  injection he' with he'
  subst he'
  refine⟨o,s,v,?_,?_,?_,ht⟩
  ·rw [List.getElem?_set_ne (by omega),List.getElem?_set_ne (by omega),List.getElem?_set_self (by omega)]
  ·rw [List.getElem?_set_ne (by omega),List.getElem?_set_self (by rw [List.length_set];omega)]
  ·rw [List.getElem?_set_self (by rw [List.length_set,List.length_set];omega)]
 ·obtain⟨o1,s1,v1,h1,h2,h3,h4⟩:=h i e' (by omega) he'
  refine⟨o1,s1,v1,?_,?_,?_,h4⟩
  ·rw [List.getElem?_set_ne (by omega),List.getElem?_set_ne (by omega),List.getElem?_set_ne (by omega)];exact h1
  ·rw [List.getElem?_set_ne (by omega),List.getElem?_set_ne (by omega),List.getElem?_set_ne (by omega)];exact h2
  ·rw [List.getElem?_set_ne (by omega),List.getElem?_set_ne (by omega),List.getElem?_set_ne (by omega)];exact h3
theorem CZ (es:List Ex) (F:Nat→Prop) (a:Option Addr) (c n:Nat) (w:World) (hL:Lex w F es a c) (hF:∀b,F b→b < w.heap.size) (hnl:n=es.length) (hn:n≤24) (hS:∀e∈es,Small e∧Au.dp e≤100):
  Calls Tryz.prog 35 #[.slice a n c] w fun e w'=>∃b,e=.returned (.slice (some ⟨b,0,none⟩) n n)∧Lex w' (fun b=>b < w'.heap.size) (Au.turns es) (some ⟨b,0,none⟩) n∧Only (fun _=>False) w w':=by
 have HG:Hid (∀(k:Nat) (e:Ex),es[k]?=some e→∃b off op st a1 m1 c1,a=some ⟨b,off,none⟩∧b < w.heap.size∧w.cell? ⟨b,off+k*3,none⟩=some (.int .u8 op)∧w.cell? ⟨b,off+k*3+1,none⟩=some (.int .u32 st)∧w.cell? ⟨b,off+k*3+2,none⟩=some (.slice a1 m1 c1)∧Te w (fun b=>b < w.heap.size) e (.agg #[.int .u8 op,.int .u32 st,.slice a1 m1 c1])∧Small e∧Au.dp e≤100):=fun k e he=>by
  obtain⟨b,off,rfl,hb,ht⟩:=hL.2 (fun h=>by rw [h] at he;simp at he)
  obtain⟨o,s,q,h1,h2,h3,h4⟩:=cZ.get es b off k e ht he
  have h6:=hS e (List.mem_of_getElem? he)
  obtain⟨op,st,kids⟩:=e
  have h5:=h4
  obtain⟨a1,c1,e1,_⟩:=h4.kids
  simp only [Value.agg.injEq,Array.mk.injEq,List.cons.injEq,and_true] at e1
  obtain⟨rfl,rfl,rfl⟩:=e1
  exact⟨b,off,_,_,a1,_,c1,rfl,hF b hb,h1,h2,h3,Te.keep (fun b hb o v hv=>hv) hF _ _ h5,h6⟩
 have jZ:=zH hnl
 clear hL hF hS hnl
 obtain⟨i0,g3,Iq,Ir,Iu⟩:=info_parts nI
 go_enter Tryz.func35,Tryz.ntmps35
 go_upto_region 2 with (refine wpList_make_full _ rfl _ _ 83 rfl w.heap.size 117 i0 (.agg #[.int .u8 0,.int .u32 0,.slice none 0 0]) 3 Tryz.underlying83 g3 Iq Ir .i64 .i64 _ _ n rfl rfl rfl rfl (by rw [Iu];omega) (by unfold maxLen;omega) (Nat.le_refl _) ?_;intro w1 hown1 hg1)
 obtain⟨rb,hrb⟩:∃x,x=w.heap.size:=⟨_,rfl⟩
 rw [←hrb] at hown1 ⊢
 have ho1:Only (fun _=>False) w w1:=(Only.refl _ _).grown hg1 (fun k h=>by cases h)
 have H1:Hid ((∃xs,w1.ownsRow rb 117 3 (.slice (some ⟨rb,0,none⟩) n n) n xs)∧Only (fun _=>False) w w1∧rb=w.heap.size):=⟨⟨_,hown1⟩,ho1,hrb⟩
 clear hown1 hg1 ho1 hrb g3 Iq Ir Iu
 go_wp2_with fail
 go_loopg [11] n (fun gh v wr=>∃(k:Nat) (xs:List Value) (W:World),W=wr∧gh=n - k∧k≤n∧v=.int .i64 (k:Int)∧W.ownsRow rb 117 3 (.slice (some ⟨rb,0,none⟩) n n) n xs∧ML W rb es k xs∧Only (fun _=>False) w W)
 case atStart=>
  obtain⟨⟨xs,hx⟩,ho,_⟩:=H1.out
  exact⟨0,xs,_,rfl,rfl,Nat.zero_le _,rfl,hx,fun i e hi=>by omega,ho⟩
 case round=>
  obtain⟨k,xs,W,hW,rfl,hk,rfl,hown,htr,Ah⟩:=hrel
  subst hW
  have HK:Hid (W.ownsRow rb 117 3 (.slice (some ⟨rb,0,none⟩) n n) n xs∧ML W rb es k xs∧Only (fun _=>False) w W):=⟨hown,htr,Ah⟩
  by_cases hlt:k < n
  ·have t1:(k:Int) <(n:Int):=by omega
   obtain⟨e,he⟩:∃e,es[k]?=some e:=⟨_,List.getElem?_eq_getElem (by rw [←jZ.out];exact hlt)⟩
   obtain⟨b,off,op,st,a1,m1,c1,rfl,hb,q0,q1,q2,hte,hsm,hdp⟩:=HG.out k e he
   have d0:=iN Ah q0
   have d1:=iN Ah q1
   have d2:=iN Ah q2
   have lb:b < W.heap.size:=Nat.lt_of_lt_of_le hb Ah.size
   have HE:Hid (es[k]?=some e∧Te w (fun b=>b < w.heap.size) e (.agg #[.int .u8 op,.int .u32 st,.slice a1 m1 c1])∧Small e∧Au.dp e≤100):=⟨he,hte,hsm,hdp⟩
   have hxl:xs.length=n*3:=hown.1
   have NY:=zH hxl
   have hrl:=(l_ hown (List.getElem?_eq_getElem (l:=xs) (i:=k*3) (by omega))).2.2.2
   clear hown htr Ah he q0 q1 q2 hte hsm hdp hb
   go_upto_region 5 with fail
   obtain⟨Y,hY⟩:∃Z,Z=W.alloc (.cells #[.int .u8 op,.int .u32 st,.slice a1 m1 c1] 117):=⟨_,rfl⟩
   obtain⟨yb,hyb⟩:∃z,z=W.heap.size:=⟨_,rfl⟩
   have HY:Hid (Y.heap[yb]?=some (.cells #[.int .u8 op,.int .u32 st,.slice a1 m1 c1] 117 (0,0))∧Only (fun _=>False) W Y∧W.heap.size≤Y.heap.size):=by rw [hY,hyb];exact⟨heap_alloc_new _ _,(Only.refl _ _).alloc _,by simp⟩
   rw [←hY,←hyb]
   clear hY hyb d0 d1 d2 lb
   have y0:Y.cell? ⟨yb,0,none⟩=some (.int .u8 op):=ae HY.out.1
   have y1:Y.cell? ⟨yb,1,none⟩=some (.int .u32 st):=ae HY.out.1
   have y2:Y.cell? ⟨yb,2,none⟩=some (.slice a1 m1 c1):=ae HY.out.1
   have ly:yb < Y.heap.size:=(Array.getElem?_eq_some_iff.1 HY.out.1).1
   have HTA:Hid (Calls Tryz.prog 59 #[.agg #[.int .u8 op,.int .u32 st,.slice a1 m1 c1]] Y fun e' w'=>∃v,e'=.returned v∧Te w' (fun b=>Y.heap.size≤b∧b < w'.heap.size) (Au.turn e) v∧Only (fun _=>False) Y w'):=KH e op st a1 m1 c1 Y (Te.keep (Kp.only (HK.out.2.2.trans HY.out.2.1) (fun _ _ h=>h)) (fun b hb=>Nat.lt_of_lt_of_le hb (HK.out.2.2.trans HY.out.2.1).size) _ _ HE.out.2.1) HE.out.2.2.1 HE.out.2.2.2
   go_wp2_with fail
   refine Calls.mono HTA.out ?_
   rintro e' W2 ⟨v,rfl,ht2,ho2⟩
   obtain⟨o',s',a',m',c',rfl⟩:∃o s a m c,v=.agg #[.int .u8 o,.int .u32 s,.slice a m c]:=by
    cases h:Au.turn e with
    | mk o s kids=>
     rw [h] at ht2
     obtain⟨a,cap,hv,_⟩:=ht2.kids
     exact⟨o,s,a,_,cap,hv⟩
   have H2:Hid (W2.ownsRow rb 117 3 (.slice (some ⟨rb,0,none⟩) n n) n xs∧Only (fun _=>False) w W2∧ML W2 rb es k xs∧Te W2 (fun b=>rb < b∧b < W2.heap.size) (Au.turn e) (.agg #[.int .u8 o',.int .u32 s',.slice a' m' c'])):=⟨Sd HK.out.1 (HY.out.2.1.trans ho2),HK.out.2.2.trans (HY.out.2.1.trans ho2),HK.out.2.1.keep (Kp.only (HY.out.2.1.trans ho2) (fun _ _ h=>h)) (HY.out.2.1.trans ho2).size,Te.keep (fun b hb o v hv=>hv) (fun b hb=>⟨by have:=HY.out.2.2;omega,hb.2⟩) _ _ ht2⟩
   clear ho2 ht2 y0 y1 y2 ly
   obtain⟨u0,hu0⟩:∃u,xs[k*3]?=some u:=⟨_,List.getElem?_eq_getElem (by rw [NY.out];omega)⟩
   obtain⟨u1,hu1⟩:∃u,xs[k*3+1]?=some u:=⟨_,List.getElem?_eq_getElem (by rw [NY.out];omega)⟩
   obtain⟨u2,hu2⟩:∃u,xs[k*3+2]?=some u:=⟨_,List.getElem?_eq_getElem (by rw [NY.out];omega)⟩
   obtain⟨x0,f0,-,lr⟩:=l_ H2.out.1 hu0
   obtain⟨x1,f1,-,-⟩:=l_ H2.out.1 hu1
   obtain⟨x2,f2,-,-⟩:=l_ H2.out.1 hu2
   have HN:Hid (((W2.setCell ⟨rb,k*3,none⟩ (.int .u8 o')).setCell ⟨rb,k*3+1,none⟩ (.int .u32 s')).setCell ⟨rb,k*3+2,none⟩ (.slice a' m' c') |>.ownsRow rb 117 3 (.slice (some ⟨rb,0,none⟩) n n) n (((xs.set (k*3) (.int .u8 o')).set (k*3+1) (.int .u32 s')).set (k*3+2) (.slice a' m' c'))):=uF (uF (uF H2.out.1 _ _) _ _) _ _
   have fK:Hid (Only (·=rb) W2 (((W2.setCell ⟨rb,k*3,none⟩ (.int .u8 o')).setCell ⟨rb,k*3+1,none⟩ (.int .u32 s')).setCell ⟨rb,k*3+2,none⟩ (.slice a' m' c'))):=(((Only.refl (·=rb) W2).setCell (p:=⟨rb,k*3,none⟩) rfl _).setCell (p:=⟨rb,k*3+1,none⟩) rfl _).setCell (p:=⟨rb,k*3+2,none⟩) rfl _
   have HT:Hid (ML (((W2.setCell ⟨rb,k*3,none⟩ (.int .u8 o')).setCell ⟨rb,k*3+1,none⟩ (.int .u32 s')).setCell ⟨rb,k*3+2,none⟩ (.slice a' m' c')) rb es (k+1) (((xs.set (k*3) (.int .u8 o')).set (k*3+1) (.int .u32 s')).set (k*3+2) (.slice a' m' c'))):=
    (H2.out.2.2.1.next NY.out hlt HE.out.1 H2.out.2.2.2).keep (Kp.only fK.out (fun b hb e=>by have:=hb.1;omega)) fK.out.size
   have Sg:w.heap.size≤rb:=Nat.le_of_eq H1.out.2.2.symm
   clear hu0 hu1 hu2 hxl
   go_wp2_with fail
   go_roundg (n -(k+1))
   case measure=>omega
   case rel=>exact⟨k+1,_,_,rfl,rfl,by omega,by go_num,HN.out,HT.out,((H2.out.2.1.aS (p:=⟨rb,k*3,none⟩) Sg _).aS (p:=⟨rb,k*3+1,none⟩) Sg _).aS (p:=⟨rb,k*3+2,none⟩) Sg _⟩
  ·have t1:decide ((k:Int) <(n:Int))=false:=decide_eq_false (by omega)
   have hkn:k=n:=by omega
   have HL:Hid (Lex W (fun b=>b < W.heap.size) (Au.turns es) (some ⟨rb,0,none⟩) n):=by
    have hT:RY W (fun b=>rb < b∧b < W.heap.size) (Au.turns es) xs:=fun i e he=>by
     rw [Au.gp,List.getElem?_map] at he
     cases h:es[i]? with
     | none=>rw [h] at he;cases he
     | some e0=>
      rw [h] at he
      injection he with he
      subst he
      have hi:=(List.getElem?_eq_some_iff.1 h).1
      exact htr i e0 (by rw [hkn,jZ.out];exact hi) h
    have ho':W.ownsRow rb 117 3 (.slice (some ⟨rb,0,none⟩) n n) (Au.turns es).length xs:=by rw [Au.jc,←jZ.out];exact hown
    obtain⟨a',c',e1,e2⟩:=Lex.of hT ho' (fun b hb o v hv=>hv) (fun b hb=>hb.2) (by rw [Au.jc,←jZ.out];omega)
    injection e1 with e1 e3 e4
    subst e1
    exact⟨e2.1,e2.2⟩
   clear hown htr Ah
   go_wp2_with fail
   go_ret
   exact⟨rb,rfl,HL.out,HK.out.2.2⟩
end Go.Proofs.YtdlabakleldgaaaGreatDoor
namespace Go.Proofs.YtdlabakleldgaaaGreatDoor
namespace Au
open Rl (Ex)
def st (p:Pl) (q:Nat):Int:=p.sets[q]?.getD 0
inductive Pw (C:List Int) (p:Pl) (q i:Nat):Nat→Nat→Prop
 | one:hit C (st p q) i→Pw C p q i q (i+1)
 | step {r j r':Nat}:Pw C p q i r j→(p.next r).testBit r'=true→hit C (st p r') j→Pw C p q i r' (j+1)
def Lg (C:List Int) (p:Pl) (x:Nd) (i j:Nat):Prop:=(x.none=true∧i=j)∨∃q r,x.first.testBit q=true∧x.last.testBit r=true∧Pw C p q i r j
structure Gd (C:List Int) (M:Nat→Nat→Prop) (a:Nat) (p:Pl) (x:Nd):Prop where
 fi:∀q,x.first.testBit q=true→a≤q∧q < p.sets.length
 la:∀q,x.last.testBit q=true→a≤q∧q < p.sets.length
 cl:∀q r,a≤q→(p.next q).testBit r=true→a≤r∧r < p.sets.length
 lg:∀i j,M i j↔Lg C p x i j
structure Xt (a:Nat) (p p1:Pl):Prop where
 pre:∃S,p1.sets=p.sets++S
 nx:∀q,q < a→p1.next q=p.next q
end Au
namespace Au
open Rl (Ex)
end Au
namespace Au
open Rl (Ex)
structure Fn1 (C:List Int) (e:Ex) (a b:Nat) (p:Pl) (y:Nd):Prop where
 fi:∀q,y.first.testBit q=true→a≤q∧q < b
 la:∀q,y.last.testBit q=true→a≤q∧q < b
 cl:∀q r,a≤q→q < b→(p.next q).testBit r=true→a≤r∧r < b
 lg:∀i j,mt C e i j↔Lg C p y i j
end Au
namespace Au
open Rl (Ex)
theorem qX (p:Pl) (m:Nat):∀(cs found w aj w1:List Nat),found.length≤300→ways p m cs found w=some (aj,w1)→
  ∃(ext u:List Nat),aj=found++ext∧aj.length≤300∧w1=w++u∧u.length=cs.length∧∀(j c:Nat),cs[j]?=some c→∃t:Nat,u[j]?=some t∧aj[t]?=some (m &&& by' p c)
 | [],found,w,aj,w1,hl,h=>by
  simp only [ways] at h
  injection h with h
  injection h with h1 h2
  subst h1 h2
  exact⟨[],[],by simp,hl,by simp,rfl,fun j c h=>by simp at h⟩
 | c::cs,found,w,aj,w1,hl,h=>by
  simp only [ways] at h
  split at h
  ·rename_i hm
   obtain⟨ext,u,h1,h2,h3,h4,h5⟩:=qX p m cs found _ aj w1 hl h
   refine⟨ext,found.idxOf (m &&& by' p c)::u,h1,h2,by rw [h3];simp,by simp [h4],?_⟩
   intro j d hj
   cases j with
   | zero=>
    simp only [List.getElem?_cons_zero,Option.some.injEq] at hj
    subst hj
    refine⟨_,rfl,?_⟩
    have hlt:=List.idxOf_lt_length_of_mem hm
    rw [h1,List.getElem?_append_left hlt,List.getElem?_eq_getElem hlt,List.getElem_idxOf hlt]
   | succ j=>
    simp only [List.getElem?_cons_succ] at hj ⊢
    exact h5 j d hj
  ·split at h
   ·cases h
   ·rename_i hm hl3
    obtain⟨ext,u,h1,h2,h3,h4,h5⟩:=qX p m cs (found++[m &&& by' p c]) _ aj w1 (by rw [List.length_append];simp;omega) h
    refine⟨(m &&& by' p c)::ext,found.length::u,by rw [h1];simp,h2,by rw [h3];simp,by simp [h4],?_⟩
    intro j d hj
    cases j with
    | zero=>
     simp only [List.getElem?_cons_zero,Option.some.injEq] at hj
     subst hj
     refine⟨_,rfl,?_⟩
     rw [h1]
     simp
    | succ j=>
     simp only [List.getElem?_cons_succ] at hj ⊢
     exact h5 j d hj
def Si (p:Pl) (l:List Nd) (F classes:Nat) (Fd:List Nat) (nx:List (List Nat)) (o:List Nat) (n:Nat):Prop:=
 ∃S w,Fd[n]?=some S∧nx[n]?=some w∧w.length=classes∧o[n]?=some (out l S)∧∀c,c < classes→∃t,w[c]?=some t∧Fd[t]?=some (may p F S &&& by' p c)
theorem rY (p:Pl) (l:List Nd) (F classes:Nat):∀(f n:Nat) (found:List Nat) (nx:List (List Nat)) (o:List Nat) (Sj:List (List Nat)) (o1:List Nat),f+n=301→found.length≤300→n≤found.length→nx.length=n→o.length=n→(∀k,k < n→Si p l F classes found nx o k)→
  states p l F classes f n found nx o=some (Sj,o1)→∃ext,let Fd:=found++ext;Sj.length=Fd.length∧o1.length=Fd.length∧Fd.length≤300∧∀k,k < Fd.length→Si p l F classes Fd Sj o1 k
 | 0,n,found,nx,o,Sj,o1,hf,hl,hn,h1,h2,hk,h=>by omega
 | f+1,n,found,nx,o,Sj,o1,hf,hl,hn,h1,h2,hk,h=>by
  simp only [states] at h
  cases hs:found[n]? with
  | none=>
   rw [hs] at h
   injection h with h
   injection h with e1 e2
   subst e1 e2
   have:=List.getElem?_eq_none_iff.1 hs
   obtain rfl:n=found.length:=by omega
   exact⟨[],by simpa using ⟨h1,h2,hl,hk⟩⟩
  | some S=>
   rw [hs] at h
   simp only at h
   cases hw:ways p (may p F S) (List.range classes) found [] with
   | none=>rw [hw] at h;cases h
   | some r=>
    obtain⟨aj,w⟩:=r
    rw [hw] at h
    simp only at h
    obtain⟨ext,u,a1,a2,a3,a4,a5⟩:=qX p _ _ _ _ _ _ hl hw
    rw [List.nil_append] at a3
    subst a3
    have hnl:n < found.length:=(List.getElem?_eq_some_iff.1 hs).1
    have up:∀k x,found[k]?=some x→aj[k]?=some x:=fun k x hx=>by
     rw [a1,List.getElem?_append_left (List.getElem?_eq_some_iff.1 hx).1];exact hx
    obtain⟨ZK,b⟩:=rY p l F classes f (n+1) aj (nx++[w]) (o++[out l S]) Sj o1 (by omega) a2 (by rw [a1,List.length_append];omega) (by simp [h1]) (by simp [h2]) (by
     intro k hkn
     by_cases e:k=n
     ·subst e
      refine⟨S,w,up _ _ hs,by rw [←h1];simp,by rw [a4];simp,by rw [←h2];simp,?_⟩
      intro c hc
      obtain⟨t,t1,t2⟩:=a5 c c (by rw [List.getElem?_range hc])
      exact⟨t,t1,t2⟩
     ·obtain⟨S',w',c1,c2,c3,c4,c5⟩:=hk k (by omega)
      refine⟨S',w',up _ _ c1,?_,c3,?_,?_⟩
      ·rw [List.getElem?_append_left (by omega)];exact c2
      ·rw [List.getElem?_append_left (by omega)];exact c4
      ·intro c hc
       obtain⟨t,t1,t2⟩:=c5 c hc
       exact⟨t,t1,up _ _ t2⟩) h
    refine⟨ext++ZK,?_⟩
    rw [←List.append_assoc,←a1]
    exact b
theorem GG (es:List Ex) (classes:Int) (nx:List (List Nat)) (o:List Nat) (h:make es classes=.ok (nx,o)):
  1≤classes∧classes≤24∧es.length≤24∧∃C8 p Fd,all es [] MW=some (C8,p)∧Fd[0]?=some 0∧nx.length=Fd.length∧o.length=Fd.length∧Fd.length≤300∧∀k,k < Fd.length→Si p C8 (C8.foldl (fun m x=>m ||| x.first) 0) classes.toNat Fd nx o k:=by
 unfold make at h
 split at h
 ·cases h
 ·rename_i hc
  cases ha:all es [] MW with
  | none=>rw [ha] at h;cases h
  | some r=>
   obtain⟨C8,p⟩:=r
   rw [ha] at h
   simp only at h
   cases hs:states p C8 (C8.foldl (fun m x=>m ||| x.first) 0) classes.toNat 301 0 [0] [] [] with
   | none=>rw [hs] at h;cases h
   | some r=>
    obtain⟨Sj,o1⟩:=r
    rw [hs] at h
    injection h with h
    injection h with e1 e2
    subst e1 e2
    obtain⟨ext,a1,a2,a3,a4⟩:=rY p C8 _ _ 301 0 [0] [] [] _ _ rfl (by simp) (by simp) rfl rfl (fun k hk=>absurd hk (Nat.not_lt_zero k)) hs
    exact⟨by omega,by omega,by omega,C8,p,[0]++ext,rfl,rfl,a1,a2,a3,a4⟩
def runs (nx:List (List Nat)):Nat→List Int→List Nat
 | _,[]=>[]
 | s,c::cs=>(((nx[s]?.getD [])[c.toNat]?).getD 0)::runs nx (((nx[s]?.getD [])[c.toNat]?).getD 0) cs
theorem pV (nx:List (List Nat)):∀(C:List Int) (s:Nat),(runs nx s C).length=C.length
 | [],s=>rfl
 | c::cs,s=>by simp [runs,pV nx cs]
end Au
end Go.Proofs.YtdlabakleldgaaaGreatDoor
namespace Go.Proofs.YtdlabakleldgaaaGreatDoor.L
open Go.RowKit Go.Maps
def Gb (w:World) (gb rb ab ob n:Nat) (vL:Value):Prop:=w.heap[gb]?=some (.cells #[.slice (some ⟨rb,0,none⟩) n n,.slice (some ⟨ab,0,none⟩) n n,.slice (some ⟨ob,0,none⟩) n n,vL] 165 (0,0))
theorem Gb.lt {w:World} {gb rb ab ob n:Nat} {vL:Value} (h:Gb w gb rb ab ob n vL):gb < w.heap.size:=(Array.getElem?_eq_some_iff.1 h).1
theorem Gb.only {S:Nat→Prop} {w w':World} {gb rb ab ob n:Nat} {vL:Value} (h:Gb w gb rb ab ob n vL) (ho:Only S w w') (hS:¬ S gb):Gb w' gb rb ab ob n vL:=(ho.block gb h.lt hS).trans h
theorem Gb.off {w:World} {gb rb ab ob n c:Nat} {vL:Value} (h:Gb w gb rb ab ob n vL) (hn:gb≠c) (i:Nat) (v:Value):Gb (w.setCell ⟨c,i,none⟩ v) gb rb ab ob n vL:=(Below.heap_setCell _ _ _ _ hn).trans h
theorem Gb.ne {w:World} {gb rb ab ob n b:Nat} {vL:Value} {l:List Nat} (h:Gb w gb rb ab ob n vL) (k:Nb w b l):gb≠b:=fun e=>by
 subst e
 unfold Gb at h
 unfold Nb at k
 rw [h] at k
 injection k with k
 injection k with _ k
 cases k
theorem Ak (gb rb ab ob n:Nat) (vL:Value) (row at':List Nat) (i j s t:Nat) (w:World) (hG:Gb w gb rb ab ob n vL) (hr:Nb w rb row) (ha:Nb w ab at') (hra:rb≠ab) (hi:i < n) (hj:j < n) (hs:row[i]?=some s) (ht:row[j]?=some t) (hsn:s < n) (htn:t < n) (hn:n≤1000000) (hal:at'.length=n):
  Calls Tryz.prog 118 #[.pointer (some ⟨gb,0,none⟩),.int .i64 (i:Int),.int .i64 (j:Int)] w fun e w'=>e=.returned (.tuple #[])∧Nb w' rb ((row.set i t).set j s)∧Nb w' ab ((at'.set s j).set t i)∧Only (fun b=>b=rb∨b=ab) w w':=by
 have HG:=zH hG
 have HR:=zH hr
 have HA:=zH ha
 have hgr:gb≠rb:=hG.ne hr
 have hga:gb≠ab:=hG.ne ha
 have l1:=hG.lt
 have l2:=hr.lt
 have l3:=ha.lt
 have k0:w.cell? ⟨gb,0,none⟩=some (.slice (some ⟨rb,0,none⟩) n n):=ae hG
 have k1:w.cell? ⟨gb,1,none⟩=some (.slice (some ⟨ab,0,none⟩) n n):=ae hG
 have c0:=hr.cell hs
 have c1:=hr.cell ht
 have i1:(i:Int) <(n:Int):=by omega
 have i2:(j:Int) <(n:Int):=by omega
 have i3:(s:Int) <(n:Int):=by omega
 have i4:(t:Int) <(n:Int):=by omega
 have f1:∀x,w.frozen? ⟨rb,x,none⟩=false:=fun x=>hr.fz x
 have f2:∀x,w.frozen? ⟨ab,x,none⟩=false:=fun x=>ha.fz x
 have hrl:row[j]?=some t:=ht
 have ZL:Hid (∀m,Nb (w.drewN m) rb row):=fun m=>hr
 have HAM:Hid (∀m,Nb (w.drewN m) ab at'):=fun m=>ha
 have e1:∀m,((w.drewN m).setCell ⟨rb,i,none⟩ (.int .i64 (t:Int))).cell? ⟨rb,j,none⟩=some (.int .i64 (t:Int)):=fun m=>((ZL.out m).set i t).cell (by
  rw [List.getElem?_set]
  split
  ·rename_i e
   rw [if_pos (by have:=(List.getElem?_eq_some_iff.1 hs).1;omega)]
  ·exact ht)
 have g1:∀m x,((w.drewN m).setCell ⟨rb,i,none⟩ (.int .i64 (t:Int))).frozen? ⟨rb,x,none⟩=false:=fun m x=>((ZL.out m).set i t).fz x
 have CJ:=zH hal
 clear hG hr ha hs ht hrl hal
 go_enter Tryz.func118,Tryz.ntmps118
 go_wp2_with fail
 go_quiet (fail)
 go_wp2_with fail
 go_region
 obtain⟨X,hX⟩:∃X,X=((w.drewN (nq+1)).setCell ⟨rb,i,none⟩ (.int .i64 (t:Int))).setCell ⟨rb,j,none⟩ (.int .i64 (s:Int)):=⟨_,rfl⟩
 have Ui:Hid (Nb X rb ((row.set i t).set j s)):=by rw [hX];exact ((ZL.out _).set i t).set j s
 have Sk:Hid (Nb X ab at'):=by rw [hX];exact ((HAM.out _).off (Ne.symm hra) _ _).off (Ne.symm hra) _ _
 have HXG:Hid (Gb X gb rb ab ob n vL):=by rw [hX];exact (Gb.off (w:=w.drewN (nq+1)) HG.out hgr _ _).off hgr _ _
 have Sl:Hid (Only (fun b=>b=rb∨b=ab) w X):=by rw [hX];exact (((Only.refl _ w).drewN _).setCell (Or.inl rfl) _).setCell (Or.inl rfl) _
 rw [←hX]
 clear hX e1 g1 k0 k1 c0 c1 f1 f2 l1 l2 l3
 have k1:X.cell? ⟨gb,1,none⟩=some (.slice (some ⟨ab,0,none⟩) n n):=ae HXG.out
 have HXM:Hid (∀m,Nb (X.drewN m) ab at'):=fun m=>Sk.out
 have f2:∀x,X.frozen? ⟨ab,x,none⟩=false:=fun x=>Sk.out.fz x
 have l1:=HXG.out.lt
 have l3:=Sk.out.lt
 obtain⟨y1,hy1⟩:∃y1,at'[s]?=some y1:=⟨_,List.getElem?_eq_getElem (by have:=CJ.out;omega)⟩
 obtain⟨y2,hy2⟩:∃y2,(at'.set s j)[t]?=some y2:=⟨_,List.getElem?_eq_getElem (by rw [List.length_set];have:=CJ.out;omega)⟩
 have c2:=Sk.out.cell hy1
 have e2:(X.setCell ⟨ab,s,none⟩ (.int .i64 (j:Int))).cell? ⟨ab,t,none⟩=some (.int .i64 (y2:Int)):=(Sk.out.set s j).cell hy2
 have g2:∀x,(X.setCell ⟨ab,s,none⟩ (.int .i64 (j:Int))).frozen? ⟨ab,x,none⟩=false:=fun x=>(Sk.out.set s j).fz x
 clear hy1 hy2
 go_wp2_with fail
 go_region
 go_wp2_with fail
 go_end0
 refine⟨rfl,?_,?_,?_⟩
 ·exact (Ui.out.off hra _ _).off hra _ _
 ·exact (Sk.out.set s j).set t i
 ·exact ((Sl.out.setCell (Or.inr rfl) _).setCell (Or.inr rfl) _).drew
end Go.Proofs.YtdlabakleldgaaaGreatDoor.L
