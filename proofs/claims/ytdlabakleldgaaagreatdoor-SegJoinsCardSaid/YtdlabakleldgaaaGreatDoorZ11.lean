/- Prt2 -/
import Derived.Test.YtdlabakleldgaaaGreatDoorZ00
import Derived.Test.YtdlabakleldgaaaGreatDoorZ10
import Derived.Deep.RegionHeld3
set_option linter.unusedVariables false
set_option linter.unusedSimpArgs false
set_option maxRecDepth 100000
set_option maxHeartbeats 8000000
namespace Go.Proofs.YtdlabakleldgaaaGreatDoor
open Go.RowKit Go.Maps
open Rl (Ex)
def PG (w:World) (g cl:Nat) (fs:Nat) (vL:Value) (em:Nat) (R:Option (Au.Nd × Au.Pl)) (e:Ending) (w':World):Prop:=
 match R with
 | none=>e=.returned (.tuple #[.agg xP,.bool false])∧Only (·=g) w w'
 | some (x,p1)=>e=.returned (.tuple #[qJ x,.bool true])∧mV w' g cl p1 fs vL em∧Only (·=g) w w'
structure BJ (w W:World) (F:Nat→Prop) (g cl:Nat) (fs:Nat) (vL:Value) (em:Nat) (D:Nat) (R:Option (Au.Nd × Au.Pl)) (gh:Nat) (L:List Fm) (m:Fm) (ob cap:Nat) (cur:Array Value) (p:Au.Pl):Prop where
 opn:pF W (w.heap.size+1+1+1) ob cap cur (L++[m])
 mc:Au.jS gh (m.f::(L.map Fm.f).reverse) p=some R
 hg:Au.Hg D (m.f::(L.map Fm.f).reverse)
 iv:Au.Iv (m.f::(L.map Fm.f).reverse) p
 pl:mV W g cl p fs vL em
 lf:∀x∈L++[m],Lf W (fun b=>F b∨b=w.heap.size+1+1) x.f.left x.a x.c
 rs:W.heap[w.heap.size+1]?=some (.cells xP 143 (0,0))
 on:Only (fun h=>h=g∨w.heap.size≤h) w W
 gl:g < w.heap.size
theorem ig.all {w:World} {g:Nat} {me:Bool} {mf ml:Nat} (h:ig w g ⟨me,mf,ml⟩):w.cell? ⟨g,0,none⟩=some (.bool me)∧w.cell? ⟨g,1,none⟩=some (.int .u64 (wd mf 0:Int))∧w.cell? ⟨g,2,none⟩=some (.int .u64 (wd mf 1:Int))∧w.cell? ⟨g,3,none⟩=some (.int .u64 (wd mf 2:Int))∧w.cell? ⟨g,4,none⟩=some (.int .u64 (wd mf 3:Int))∧w.cell? ⟨g,5,none⟩=some (.int .u64 (wd ml 0:Int))∧w.cell? ⟨g,6,none⟩=some (.int .u64 (wd ml 1:Int))∧w.cell? ⟨g,7,none⟩=some (.int .u64 (wd ml 2:Int))∧w.cell? ⟨g,8,none⟩=some (.int .u64 (wd ml 3:Int)):=
 ⟨ae h,h.f 0 (by decide),h.f 1 (by decide),h.f 2 (by decide),h.f 3 (by decide),h.l 0 (by decide),h.l 1 (by decide),h.l 2 (by decide),h.l 3 (by decide)⟩
theorem BJ.fuel {w W:World} {F:Nat→Prop} {g cl:Nat} {fs:Nat} {vL:Value} {em D:Nat} {R:Option (Au.Nd × Au.Pl)} {gh:Nat} {L:List Fm} {m:Fm} {ob cap:Nat} {cur:Array Value} {p:Au.Pl} (h:BJ w W F g cl fs vL em D R gh L m ob cap cur p):∃n,gh=n+1:=by
 cases gh with
 | zero=>have:=h.mc;simp [Au.jS] at this
 | succ n=>exact⟨n,rfl⟩
theorem BJ.done {w W:World} {F:Nat→Prop} {g cl:Nat} {fs:Nat} {vL:Value} {em D:Nat} {R:Option (Au.Nd × Au.Pl)} {n:Nat} {op:Int} {nd:Au.Nd} {a:Option Addr} {c:Nat} {ob cap:Nat} {cur:Array Value} {p:Au.Pl} (h:BJ w W F g cl fs vL em D R (n+1) [] ⟨⟨op,[],nd⟩,a,c⟩ ob cap cur p):R=some (nd,Au.fin ⟨op,[],nd⟩ p):=by
 have:=h.mc
 simp only [Au.jS,List.map_nil,List.reverse_nil,Option.some.injEq] at this
 exact this.symm
theorem kD (L:List Fm) (q:Fm):((L++[q]).map Fm.f).reverse=q.f::(L.map Fm.f).reverse:=by simp
theorem BJ.kp {w W:World} {F:Nat→Prop} {g cl:Nat} {fs:Nat} {vL:Value} {em D:Nat} {R:Option (Au.Nd × Au.Pl)} {n:Nat} {L:List Fm} {m:Fm} {ob cap:Nat} {cur:Array Value} {p:Au.Pl} (h:BJ w W F g cl fs vL em D R n L m ob cap cur p) (hF:∀b,F b→b≠g∧b < w.heap.size) {w':World} {P:Nat→Prop} (ho:Only P W w') (hP:∀b,P b→b=g∨w.heap.size+1+1+1≤b):Kp W w' (fun b=>F b∨b=w.heap.size+1+1)∧w'.heap[w.heap.size+1]?=some (.cells xP 143 (0,0))∧Only (fun h=>h=g∨w.heap.size≤h) w w':=by
 have hg:=h.gl
 refine⟨Kp.only ho (fun b hb hp=>?_),?_,h.on.trans (ho.mono (fun b hb=>by have:=hP b hb;omega))⟩
 ·have h1:=hP b hp
  rcases hb with hb | hb
  ·have:=hF b hb;omega
  ·omega
 ·refine (ho.block _ (Array.getElem?_eq_some_iff.1 h.rs).1 (fun hp=>?_)).trans h.rs
  have:=hP _ hp
  omega
theorem BJ.take {w W:World} {F:Nat→Prop} {g cl:Nat} {fs:Nat} {vL:Value} {em D:Nat} {R:Option (Au.Nd × Au.Pl)} {w':World} {n:Nat} {L:List Fm} {q:Fm} {op:Int} {nd:Au.Nd} {a:Option Addr} {c:Nat} {ob cap:Nat} {cur cur':Array Value} {p:Au.Pl}
  (h:BJ w W F g cl fs vL em D R (n+1) (L++[q]) ⟨⟨op,[],nd⟩,a,c⟩ ob cap cur p) (hF:∀b,F b→b≠g∧b < w.heap.size)
  (hb:Fb w' ob (11*L.length) 171 cur' q.f.op q.a q.f.left.length q.c (Au.zJ q.f.op q.f.nd nd)) (hs:Same cur cur' (11*L.length)) (hP:mV w' g cl (Au.wE q.f.op q.f.nd nd (Au.fin ⟨op,[],nd⟩ p)) fs vL em) (P:Nat→Prop) (ho:Only P W w') (YJ:∀b,P b→b=g∨w.heap.size+1+1+1≤b):
  BJ w w' F g cl fs vL em D R n L ⟨⟨q.f.op,q.f.left,Au.zJ q.f.op q.f.nd nd⟩,q.a,q.c⟩ ob cap cur' (Au.wE q.f.op q.f.nd nd (Au.fin ⟨op,[],nd⟩ p)):=by
 obtain⟨hk,hrs,hon⟩:=h.kp hF ho YJ
 obtain⟨h1,h2,h3,h4,h5,h6,h7,h8,h9⟩:=h
 rw [kD] at h2 h3 h4
 refine⟨?_,?_,h3.pop _,h4.fin.pop,hP,?_,hrs,hon,h9⟩
 ·exact pF.set (m:=q) (m':=⟨⟨q.f.op,q.f.left,Au.zJ q.f.op q.f.nd nd⟩,q.a,q.c⟩) h1.pop hb.1 hb.2 hs
 ·simp only [Au.jS] at h2
  exact h2
 ·intro x hx
  rcases List.mem_append.1 hx with hx | hx
  ·exact (h6 x (by simp [hx])).keep hk (fun _ h=>h)
  ·simp at hx
   subst hx
   exact (h6 q (by simp)).keep hk (fun _ h=>h)
theorem BJ.none {w W:World} {F:Nat→Prop} {g cl:Nat} {fs:Nat} {vL:Value} {em D:Nat} {R:Option (Au.Nd × Au.Pl)} {n:Nat} {L:List Fm} {op:Int} {nd:Au.Nd} {k:Ex} {ks:List Ex} {a:Option Addr} {c:Nat} {ob cap:Nat} {cur:Array Value} {p:Au.Pl} (h:BJ w W F g cl fs vL em D R (n+1) L ⟨⟨op,k::ks,nd⟩,a,c⟩ ob cap cur p) (hb:Au.begin' k p=none):R=none:=by
 have:=h.mc
 simp only [Au.jS,hb,Option.some.injEq] at this
 exact this.symm
theorem Lf.tail {w:World} {F:Nat→Prop} {k:Ex} {ks:List Ex} {b off c:Nat} (h:Lf w F (k::ks) (some ⟨b,off,none⟩) c):Lf w F ks (some ⟨b,off+3,none⟩) (c - 1):=by
 obtain⟨h1,h2,h3⟩:=h
 simp only [List.length_cons] at h1 h2
 refine⟨by omega,by omega,fun _=>?_⟩
 obtain⟨b',off',e,hF,ht⟩:=h3 (by simp)
 injection e with e
 injection e with e1 e2
 subst e1 e2
 unfold cZ at ht
 exact⟨_,_,rfl,hF,ht.2⟩
theorem BJ.push {w W:World} {F:Nat→Prop} {g cl:Nat} {fs:Nat} {vL:Value} {em D:Nat} {R:Option (Au.Nd × Au.Pl)} {w':World} {n:Nat} {L:List Fm} {op:Int} {nd:Au.Nd} {k:Ex} {ks:List Ex} {a a':Option Addr} {c c':Nat} {ob cap:Nat} {cur:Array Value} {p p2:Au.Pl} {f:Au.Fr} {fa:Option Addr} {fc ob' cap':Nat} {cur':Array Value}
  (h:BJ w W F g cl fs vL em D R (n+1) L ⟨⟨op,k::ks,nd⟩,a,c⟩ ob cap cur p) (hF:∀b,F b→b≠g∧b < w.heap.size) (hb:Au.begin' k p=some (f,p2))
  (hO:pF w' (w.heap.size+1+1+1) ob' cap' cur' ((L++[⟨⟨op,ks,nd⟩,a',c'⟩])++[⟨f,fa,fc⟩])) (hP:mV w' g cl p2 fs vL em) (hl:Lf W (fun b=>F b∨b=w.heap.size+1+1) ks a' c') (hl2:Lf W (fun b=>F b∨b=w.heap.size+1+1) f.left fa fc) (P:Nat→Prop) (ho:Only P W w') (YJ:∀b,P b→b=g∨w.heap.size+1+1+1≤b):
  BJ w w' F g cl fs vL em D R n (L++[⟨⟨op,ks,nd⟩,a',c'⟩]) ⟨f,fa,fc⟩ ob' cap' cur' p2:=by
 obtain⟨hk,hrs,hon⟩:=h.kp hF ho YJ
 obtain⟨h1,h2,h3,h4,h5,h6,h7,h8,h9⟩:=h
 refine⟨hO,?_,?_,?_,hP,?_,hrs,hon,h9⟩
 ·rw [kD]
  simp only [Au.jS,hb] at h2
  exact h2
 ·rw [kD]
  exact h3.push hb
 ·rw [kD]
  exact h4.push hb
 ·intro x hx
  rcases List.mem_append.1 hx with hx | hx
  ·rcases List.mem_append.1 hx with hx | hx
   ·exact (h6 x (by simp [hx])).keep hk (fun _ h=>h)
   ·simp at hx
    subst hx
    exact hl.keep hk (fun _ h=>h)
  ·simp at hx
   subst hx
   exact hl2.keep hk (fun _ h=>h)
theorem wpList_load_midA {P:Program} {ops:Array Oper} {rest:List Oper} {op:Oper} {a:Act} {w:World} {Q:Exit→Act→World→Prop} (hgd:op.guard=none) (ty:TypeId) (x:Operand) (ho:op.op=.load ty x)
  (b o:Nat) (hx:a.eval x=.pointer (some ⟨b,o,none⟩)) (X:Array Value) (d:TypeDesc) (hc:∀j v,X[j]?=some v→w.cell? ⟨b,o+j,none⟩=some v)
  (hu:P.underlying ty=some d) (hd:d.isRow=true) (hi:(P.info? ty).map (·.size)=some X.size)
  (h:wpList P ops Q rest (a.put op.dst (.agg X)) w):wpList P ops Q (op::rest) a w:=by
 refine wpList_load_mid hgd ty x ho b o hx X.toList d (fun j v hv=>hc j v (by simpa using hv)) hu hd (by rw [hi,Array.length_toList]) ?_
 rw [Array.toArray_toList]
 exact h
theorem pG (F:Nat→Prop) (g cl:Nat) (p:Au.Pl) (fs:Nat) (vL:Value) (em:Nat) (ex:Ex) (v:Value) (w:World) (hP:mV w g cl p fs vL em) (hp:Au.rJ p) (hp2:p.sets.length≤200) (hcl:cl≤24) (he:Te w F ex v) (hF:∀b,F b→b≠g∧b < w.heap.size) (hD:Au.dp ex≤1000000):
  Calls Tryz.prog 78 #[.pointer (some ⟨g,0,none⟩),v] w (PG w g cl fs vL em (Au.node ex p)):=by
 have hlt:=hP.lt
 obtain⟨M,hM⟩:=Au.I7 ex p
 obtain⟨op,set,a,n,c,rfl⟩:∃op set a n c,v=.agg #[.int .u8 op,.int .u32 set,.slice a n c]:=by
  obtain⟨o,s,kids⟩:=ex
  obtain⟨a,cap,rfl,_⟩:=he.kids
  exact⟨o,s,a,_,cap,rfl⟩
 have HR:Hid (BJ w ((((w.alloc (.cells #[.int .u8 op,.int .u32 set,.slice a n c] 117)).alloc (.cells xP 143)).alloc (.cells #[.int .u8 op,.int .u32 set,.slice a n c] 117)).alloc (.cells #[.int .u8 3,.slice (some ⟨w.heap.size+1+1,0,none⟩) 1 1,.bool false,.int .u64 0,.int .u64 0,.int .u64 0,.int .u64 0,.int .u64 0,.int .u64 0,.int .u64 0,.int .u64 0] 171)) F g cl fs vL em 1000002 (Au.node ex p) M [] ⟨⟨3,[ex],⟨false,0,0⟩⟩,some ⟨w.heap.size+1+1,0,none⟩,1⟩ (w.heap.size+1+1+1) 1 (iR 3 (some ⟨w.heap.size+1+1,0,none⟩) 1 1 ⟨false,0,0⟩) p):=by
  have e11:#[Value.int .u8 3,.slice (some ⟨w.heap.size+1+1,0,none⟩) 1 1,.bool false,.int .u64 0,.int .u64 0,.int .u64 0,.int .u64 0,.int .u64 0,.int .u64 0,.int .u64 0,.int .u64 0]=iR 3 (some ⟨w.heap.size+1+1,0,none⟩) 1 1 ⟨false,0,0⟩:=by simp [iR,bL]
  rw [e11]
  have hO:Only (fun _=>False) w ((((w.alloc (.cells #[.int .u8 op,.int .u32 set,.slice a n c] 117)).alloc (.cells xP 143)).alloc (.cells #[.int .u8 op,.int .u32 set,.slice a n c] 117)).alloc (.cells (iR 3 (some ⟨w.heap.size+1+1,0,none⟩) 1 1 ⟨false,0,0⟩) 171)):=((((Only.refl _ _).alloc _).alloc _).alloc _).alloc _
  have hb3:((((w.alloc (.cells #[.int .u8 op,.int .u32 set,.slice a n c] 117)).alloc (.cells xP 143)).alloc (.cells #[.int .u8 op,.int .u32 set,.slice a n c] 117)).alloc (.cells (iR 3 (some ⟨w.heap.size+1+1,0,none⟩) 1 1 ⟨false,0,0⟩) 171)).heap[w.heap.size+1+1+1]?=some (.cells (iR 3 (some ⟨w.heap.size+1+1,0,none⟩) 1 1 ⟨false,0,0⟩) 171 (0,0)):=by
   have e:w.heap.size+1+1+1=(((w.alloc (.cells #[.int .u8 op,.int .u32 set,.slice a n c] 117)).alloc (.cells xP 143)).alloc (.cells #[.int .u8 op,.int .u32 set,.slice a n c] 117)).heap.size:=by simp
   rw [e]
   exact heap_alloc_new _ _
  have hb2:((((w.alloc (.cells #[.int .u8 op,.int .u32 set,.slice a n c] 117)).alloc (.cells xP 143)).alloc (.cells #[.int .u8 op,.int .u32 set,.slice a n c] 117)).alloc (.cells (iR 3 (some ⟨w.heap.size+1+1,0,none⟩) 1 1 ⟨false,0,0⟩) 171)).heap[w.heap.size+1+1]?=some (.cells #[.int .u8 op,.int .u32 set,.slice a n c] 117 (0,0)):=(Below.heap_alloc _ _ _ (by simp)).trans (bS _ _ _ _)
  refine⟨⟨Nat.le_refl _,hb3,Nat.le_refl _,by unfold maxLen;omega,rfl,?_⟩,hM,⟨?_,trivial⟩,⟨hp,hp2,?_⟩,dN.only hP hO (fun h=>h),?_,?_,hO.mono (fun _ h=>h.elim),hlt⟩
  ·intro i x hx
   have hi:=(List.getElem?_eq_some_iff.1 hx).1
   obtain rfl:i=0:=by simpa using hi
   injection hx with hx
   subst hx
   intro k hk
   rw [Nat.mul_zero,Nat.zero_add]
   rfl
  ·show 0+1+Au.fO [ex]≤1000002
   unfold Au.fO Au.fO
   omega
  ·intro f hf
   simp at hf
   subst hf
   exact⟨Nat.two_pow_pos _,Nat.two_pow_pos _⟩
  ·intro x hx
   simp at hx
   subst hx
   refine⟨Nat.le_refl _,by show 1≤maxLen;unfold maxLen;omega,fun _=>⟨_,_,rfl,Or.inr rfl,?_⟩⟩
   unfold cZ
   exact⟨⟨_,_,_,ae hb2,ae hb2,ae hb2,Te.keep (Kp.only hO (fun _ _ h=>h)) (fun b hb=>Or.inl hb) ex _ he⟩,by unfold cZ;trivial⟩
  ·exact (Below.heap_alloc _ _ _ (by simp)).trans ((Below.heap_alloc _ _ _ (by simp)).trans (heap_alloc2_new _ _ _))
 have YK:=zH hF
 clear hP hp hp2 he hM hF hD
 unfold xP at HR
 go_enter Tryz.func78,Tryz.ntmps78
 go_wp2_with fail
 go_loopg [6] M (fun gh v wr=>∃(L:List Fm) (m:Fm) (ob cap:Nat) (cur:Array Value) (p1:Au.Pl) (W:World),W=wr∧v=.slice (some ⟨ob,0,none⟩) (L.length+1) cap∧BJ w W F g cl fs vL em 1000002 (Au.node ex p) gh L m ob cap cur p1)
 case atStart=>exact⟨_,_,_,_,_,_,_,rfl,rfl,HR.out⟩
 case round=>
  obtain⟨L,m,ob,cap,cur,p1,W,hW,rfl,hr⟩:=hrel
  subst hW
  clear HR
  obtain⟨⟨rT,mleft,vI⟩,ma,mc⟩:=m
  have nM:=zH hr
  have PH:=hr.opn.fb (i:=L.length) (m:=⟨⟨rT,mleft,vI⟩,ma,mc⟩) (by simp)
  have Q6:=zH PH
  have hLn:L.length≤1000002:=by have:=hr.hg.len;simp at this;omega
  have Ck:w.heap.size+1+1+1≤ob:=hr.opn.1
  have Jo:ob < W.heap.size:=hr.opn.lt
  have hcap:L.length+1≤cap:=by have:=hr.opn.2.2.1;simpa using this
  have m_:cap≤maxLen:=hr.opn.2.2.2.1
  unfold maxLen at m_
  have c1:W.cell? ⟨ob,L.length*11+1,none⟩=some (.slice ma mleft.length mc):=by rw [Nat.mul_comm];exact PH.c 1 (by decide)
  clear PH hr
  obtain⟨n,hn⟩:∃n,n=L.length:=⟨_,rfl⟩
  rw [←hn] at hLn hcap c1 ⊢
  have HN:=zH hn
  clear hn
  have hn1:(((n+1:Nat):Int) - 1)=(n:Int):=by omega
  obtain⟨g1,rfl⟩:=nM.out.fuel
  cases mleft with
  | nil=>
   obtain⟨me,mf,ml⟩:=vI
   have HX:Hid (∀j v,(iR rT ma 0 mc ⟨me,mf,ml⟩)[j]?=some v→W.cell? ⟨ob,n*11+j,none⟩=some v):=fun j v hv=>by
    have hj:=(Array.getElem?_eq_some_iff.1 hv).1
    rw [Nat.mul_comm,HN.out,Q6.out.c j hj]
    exact hv
   have HE:=fun w=>Nh g cl p1 fs vL em rT [] ma 0 mc ⟨me,mf,ml⟩ w
   unfold qK at HE
   have HS:Hid ((iR rT ma 0 mc ⟨me,mf,ml⟩).size=11):=rfl
   generalize iR rT ma 0 mc ⟨me,mf,ml⟩=X at HX HE HS
   have HE2:=zH HE
   clear HE
   have sX:Hid ((Tryz.prog.info? 171).map (·.size)=some X.size):=by rw [HS.out];exact iB
   have hgl:=nM.out.gl
   rcases Nat.eq_zero_or_pos n with hn0 | hn0
   ·subst hn0
    obtain rfl:L=[]:=List.length_eq_zero_iff.1 HN.out.symm
    have hR:=nM.out.done
    have HRR:=zH hR
    clear hR
    go_wp2_with (first | refine wpList_load_midA rfl 171 _ rfl ob (0*11) rfl X _ HX.out Tryz.underlying171 rfl sX.out ?_ |(go_at_call 102;refine (HE2.out W nM.out.pl nM.out.iv.2.1 (nM.out.iv.2.2 _ (List.mem_cons_self ..))).mono ?_;rintro e w1 ⟨rfl,hp1,ho1⟩;have fJ:=zH hp1;have bu:=zH ho1;have hw1:ob < w1.heap.size:=Nat.lt_of_lt_of_le Jo ho1.size;clear hp1 ho1;have RS:Hid ((w1.alloc (.cells (dO ⟨me,mf,ml⟩) 143)).heap[w.heap.size+1]?=some (.cells xP 143 (0,0))):=(Below.heap_alloc _ _ _ (by omega)).trans ((bu.out.block _ (Array.getElem?_eq_some_iff.1 nM.out.rs).1 (by omega)).trans nM.out.rs);unfold qJ dO) |(refine wpList_store_rowAny rfl 143 _ _ rfl rfl (w.heap.size+1) (dO ⟨me,mf,ml⟩) rfl rfl 143 _ RS.out oO rfl (tu _) ?_;intro w3 h3 o3;have H3:=zH h3;have O3:=zH o3;clear h3 o3))
    have hO:Only (fun h=>h=g∨w.heap.size≤h) w w3:=((nM.out.on.trans (bu.out.mono (fun _ h=>Or.inl h))).alloc _).trans (O3.out.mono (fun _ h=>by omega))
    refine bodyPost_ret (v:=.tuple #[qJ ⟨me,mf,ml⟩,.bool true]) (a_ (p:=4) (u:=5) rfl _ _ (w.heap.size+1) 143 (dO ⟨me,mf,ml⟩) (0,0) _ rfl H3.out Tryz.underlying143 rfl oO rfl) rfl ?_
    rw [HRR.out]
    exact⟨rfl,(fJ.out.only (P:=fun _=>False) ((Only.refl _ _).alloc _) (fun h=>h)).only O3.out (by omega),hO.old (fun _ h=>h.symm)⟩
   ·obtain⟨L1,q,rfl⟩:∃L1 q,L=L1++[q]:=by
     have:=HN.out
     refine⟨L.dropLast,L.getLast (by intro e;rw [e] at this;simp at this;omega),?_⟩
     exact (List.dropLast_concat_getLast _).symm
    obtain⟨n1,xQ,Er⟩:∃n1,Hid (n1=L1.length)∧Hid (n=n1+1):=⟨L1.length,rfl,by have:=HN.out;simp at this;exact this⟩
    clear HN
    have hz:((n:Int)==0)=false:=by simp;omega
    obtain⟨⟨PI,ql,qn⟩,qa,qc⟩:=q
    have HQ:Hid (Fb W ob (11*L1.length) 171 cur PI qa ql.length qc qn):=nM.out.opn.fb (i:=L1.length) (m:=⟨⟨PI,ql,qn⟩,qa,qc⟩) (by simp)
    go_wp2_with (first | refine wpList_load_midA rfl 171 _ rfl ob (n*11) rfl X _ HX.out Tryz.underlying171 rfl sX.out ?_ |(go_at_call 102;refine (HE2.out W nM.out.pl nM.out.iv.2.1 (nM.out.iv.2.2 _ (List.mem_cons_self ..))).mono ?_;rintro e w1 ⟨rfl,hp1,ho1⟩;have fJ:=zH hp1;have bu:=zH ho1;have hw1:ob < w1.heap.size:=Nat.lt_of_lt_of_le Jo ho1.size;clear hp1 ho1;unfold qJ dO))
    have YL:=nM.out.iv.fin
    rw [kD] at YL
    have PK:Hid (Only (fun _=>False) w1 (w1.alloc (.cells (dO ⟨me,mf,ml⟩) 143)).drew):=((Only.refl _ _).alloc _).drew
    have YM:=zH YL
    clear YL
    have hv1:wrap64 ((n:Int) - 1)=(n1:Int):=by have:=Er.out;unfold wrap64;omega
    have hv2:IntKind.i64.wrap ((n:Int) - 1)=(n1:Int):=by have:=Er.out;rw [show (n:Int) - 1=(n1:Int) by omega];exact wrap_small _ (by omega) (by omega)
    have hv3:(n1:Int) <(n:Int):=by have:=Er.out;omega
    have HK9:Hid (∀W',Only (fun _=>False) (w1.alloc (.cells (dO ⟨me,mf,ml⟩) 143)) W'→(fun w'=>w'.cell? ⟨w1.heap.size,0,none⟩=some (.bool me)∧w'.cell? ⟨w1.heap.size,1,none⟩=some (.int .u64 (wd mf 0:Int))∧w'.cell? ⟨w1.heap.size,2,none⟩=some (.int .u64 (wd mf 1:Int))∧w'.cell? ⟨w1.heap.size,3,none⟩=some (.int .u64 (wd mf 2:Int))∧w'.cell? ⟨w1.heap.size,4,none⟩=some (.int .u64 (wd mf 3:Int))∧w'.cell? ⟨w1.heap.size,5,none⟩=some (.int .u64 (wd ml 0:Int))∧w'.cell? ⟨w1.heap.size,6,none⟩=some (.int .u64 (wd ml 1:Int))∧w'.cell? ⟨w1.heap.size,7,none⟩=some (.int .u64 (wd ml 2:Int))∧w'.cell? ⟨w1.heap.size,8,none⟩=some (.int .u64 (wd ml 3:Int))) W'):=fun W' ho=>by
     have h:ig W' w1.heap.size ⟨me,mf,ml⟩:=ig.only (w:=w1.alloc (.cells (dO ⟨me,mf,ml⟩) 143)) (heap_alloc_new _ _) ho (fun h=>h)
     exact⟨ae h,h.f 0 (by decide),h.f 1 (by decide),h.f 2 (by decide),h.f 3 (by decide),h.l 0 (by decide),h.l 1 (by decide),h.l 2 (by decide),h.l 3 (by decide)⟩
    go_region_held3 (fun w'=>w'.cell? ⟨w1.heap.size,0,none⟩=some (.bool me)∧w'.cell? ⟨w1.heap.size,1,none⟩=some (.int .u64 (wd mf 0:Int))∧w'.cell? ⟨w1.heap.size,2,none⟩=some (.int .u64 (wd mf 1:Int))∧w'.cell? ⟨w1.heap.size,3,none⟩=some (.int .u64 (wd mf 2:Int))∧w'.cell? ⟨w1.heap.size,4,none⟩=some (.int .u64 (wd mf 3:Int))∧w'.cell? ⟨w1.heap.size,5,none⟩=some (.int .u64 (wd ml 0:Int))∧w'.cell? ⟨w1.heap.size,6,none⟩=some (.int .u64 (wd ml 1:Int))∧w'.cell? ⟨w1.heap.size,7,none⟩=some (.int .u64 (wd ml 2:Int))∧w'.cell? ⟨w1.heap.size,8,none⟩=some (.int .u64 (wd ml 3:Int))) ((first | exact HK9.out _ (Only.refl _ _).drew | exact YN.out)) ((go_at_call 103;refine (Nj g cl (Au.fin ⟨rT,[],⟨me,mf,ml⟩⟩ p1) fs vL em ob (n1*11) 171 cur PI qa ql.length qc qn ⟨me,mf,ml⟩ _ (fJ.out.only PK.out (fun h=>h)) YM.out.2.1 (YM.out.2.2 _ (List.mem_cons_self ..)) (YM.out.2.2 ⟨PI,ql,qn⟩ (List.mem_cons_of_mem _ (List.mem_cons_self ..))) (by rw [Nat.mul_comm,xQ.out];exact (HQ.out.only bu.out (by omega)).only PK.out (fun h=>h)) (by omega)).mono ?_;rintro e w4 ⟨rfl,⟨cs',hf',hs'⟩,hp4,bI⟩;have HF4:=zH hf';have Q7:=zH hs';have sH:=zH hp4;have eD:Hid (Only (fun h=>h=ob∨h=g) W w4):=(((bu.out.mono (fun _ h=>Or.inr h)).trans (PK.out.mono (fun _ h=>h.elim)))).trans bI;have YN:Hid ((fun w'=>w'.cell? ⟨w1.heap.size,0,none⟩=some (.bool me)∧w'.cell? ⟨w1.heap.size,1,none⟩=some (.int .u64 (wd mf 0:Int))∧w'.cell? ⟨w1.heap.size,2,none⟩=some (.int .u64 (wd mf 1:Int))∧w'.cell? ⟨w1.heap.size,3,none⟩=some (.int .u64 (wd mf 2:Int))∧w'.cell? ⟨w1.heap.size,4,none⟩=some (.int .u64 (wd mf 3:Int))∧w'.cell? ⟨w1.heap.size,5,none⟩=some (.int .u64 (wd ml 0:Int))∧w'.cell? ⟨w1.heap.size,6,none⟩=some (.int .u64 (wd ml 1:Int))∧w'.cell? ⟨w1.heap.size,7,none⟩=some (.int .u64 (wd ml 2:Int))∧w'.cell? ⟨w1.heap.size,8,none⟩=some (.int .u64 (wd ml 3:Int))) w4):=ig.all ((ig.only (w:=w1.alloc (.cells (dO ⟨me,mf,ml⟩) 143)) (heap_alloc_new _ _) (Only.refl (fun _=>False) _).drew (fun h=>h)).only bI (by omega));clear hf' hs' hp4 bI))
    all_goals
     go_wp2_with fail
     go_roundg g1
     case measure=>omega
     case rel=>
      refine⟨L1,⟨⟨PI,ql,Au.zJ PI qn ⟨me,mf,ml⟩⟩,qa,qc⟩,ob,cap,cs',Au.wE PI qn ⟨me,mf,ml⟩ (Au.fin ⟨rT,[],⟨me,mf,ml⟩⟩ p1),w4,rfl,by rw [Er.out,xQ.out],?_⟩
      exact nM.out.take (q:=⟨⟨PI,ql,qn⟩,qa,qc⟩) YK.out (by rw [Nat.mul_comm,←xQ.out];exact HF4.out) (by rw [Nat.mul_comm,←xQ.out];exact Q7.out) sH.out _ eD.out (fun b h=>by omega)
  | cons k ks=>
   have hlf:=nM.out.lf ⟨⟨rT,k::ks,vI⟩,ma,mc⟩ (by simp)
   obtain⟨lb,lo,hma,hlF,hlt3⟩:=hlf.2.2 (by simp)
   simp only at hma
   subst hma
   have YO:=zH hlf
   have hmc:ks.length+1≤mc:=hlf.1
   have g_:ks.length+1≤maxLen:=hlf.2.1
   unfold maxLen at g_
   unfold cZ at hlt3
   obtain⟨⟨o0,s0,k0,d0,d1,d2,hTe⟩,_⟩:=hlt3
   have HT:=zH hTe
   clear hlf hTe
   have c1':W.cell? ⟨ob,n*11+1,none⟩=some (.slice (some ⟨lb,lo,none⟩) (ks.length+1) mc):=c1
   clear c1
   have hf1:=Q6.out.fz (n*11+1)
   have hgl:=nM.out.gl
   cases hb:Au.begin' k p1 with
   | none=>
    have HB:=zH hb
    have hR:=nM.out.none hb
    have HRR:=zH hR
    clear hb hR
    go_wp2_with (first |(go_at_call 101;have hc:=qP (fun b=>F b∨b=w.heap.size+1+1) g cl p1 fs vL em k _ W nM.out.pl nM.out.iv.2.1 hcl HT.out;rw [HB.out] at hc;refine hc.mono ?_;clear hc;rintro e w1 ⟨rfl,ho1⟩;have bu:=zH ho1;have hw1:ob < w1.heap.size:=Nat.lt_of_lt_of_le Jo ho1.size;clear ho1;have HA1:Hid ((w1.alloc (.cells #[.int .u8 0,.slice none 0 0,.bool false,.int .u64 0,.int .u64 0,.int .u64 0,.int .u64 0,.int .u64 0,.int .u64 0,.int .u64 0,.int .u64 0] 171)).heap[w1.heap.size]?=some (.cells #[.int .u8 0,.slice none 0 0,.bool false,.int .u64 0,.int .u64 0,.int .u64 0,.int .u64 0,.int .u64 0,.int .u64 0,.int .u64 0,.int .u64 0] 171 (0,0))):=heap_alloc_new _ _) |(refine wpList_store_rowAny rfl 171 _ _ rfl rfl w1.heap.size (zF 0) rfl rfl 171 _ HA1.out iB rfl (jk _ _ _ _ _) ?_;intro w2 h2 o2;have O2:=zH o2;have RS:Hid (w2.heap[w.heap.size+1]?=some (.cells xP 143 (0,0))):=((o2.block _ (by simp;omega) (by omega)).trans (Below.heap_alloc _ _ _ (by omega))).trans ((bu.out.block _ (Array.getElem?_eq_some_iff.1 nM.out.rs).1 (by omega)).trans nM.out.rs);clear h2 o2) |(refine wpList_store_rowAny rfl 143 _ _ rfl rfl (w.heap.size+1) xP rfl rfl 143 _ RS.out oO rfl (oN _ (by intro v hv;simp at hv;rcases hv with rfl | rfl <;> rfl)) ?_;intro w3 h3 o3;have H3:=zH h3;have O3:=zH o3;clear h3 o3))
    have hO:Only (fun h=>h=g∨w.heap.size≤h) w w3:=(((nM.out.on.trans (bu.out.mono (fun _ h=>Or.inl h))).alloc _).trans (O2.out.mono (fun _ h=>by omega))).trans (O3.out.mono (fun _ h=>by omega))
    refine bodyPost_ret (v:=.tuple #[.agg xP,.bool false]) (a_ (p:=4) (u:=5) rfl _ _ (w.heap.size+1) 143 xP (0,0) _ rfl H3.out Tryz.underlying143 rfl oO rfl) rfl ?_
    rw [HRR.out]
    exact⟨rfl,hO.old (fun _ h=>h.symm)⟩
   | some r=>
    obtain⟨f,p2⟩:=r
    have HB:=zH hb
    clear hb
    obtain⟨ie,hie,hz0,hz1,hz2⟩:=info_parts Nl
    by_cases hm1:mc=1
    ·subst hm1
     have hks:ks.length=0:=by omega
     have YP:ks=[]:=List.length_eq_zero_iff.1 hks
     subst YP
     clear hks
     simp only [List.length_nil,Nat.zero_add] at c1' hmc g_
     have aa2:=Q6.out
     go_wp2_with (first |(go_at_call 101;have hc:=qP (fun b=>F b∨b=w.heap.size+1+1) g cl p1 fs vL em k _ W nM.out.pl nM.out.iv.2.1 hcl HT.out;rw [HB.out] at hc;refine hc.mono ?_;clear hc;rintro e w1 ⟨⟨fa,fc,rfl,Jp⟩,hp2,ho1⟩;have bu:=zH ho1;have iC:=zH hp2;have HL2:=zH Jp;have hw1:ob < w1.heap.size:=Nat.lt_of_lt_of_le Jo ho1.size;clear ho1 hp2 Jp;have HA1:Hid ((w1.alloc (.cells #[.int .u8 0,.slice none 0 0,.bool false,.int .u64 0,.int .u64 0,.int .u64 0,.int .u64 0,.int .u64 0,.int .u64 0,.int .u64 0,.int .u64 0] 171)).heap[w1.heap.size]?=some (.cells #[.int .u8 0,.slice none 0 0,.bool false,.int .u64 0,.int .u64 0,.int .u64 0,.int .u64 0,.int .u64 0,.int .u64 0,.int .u64 0,.int .u64 0] 171 (0,0))):=heap_alloc_new _ _;obtain⟨X,hX⟩:∃X,X=PE ⟨f,fa,fc⟩:=⟨_,rfl⟩;have HX:=zH hX;have hV:qK f.op fa f.left.length fc f.nd=.agg X:=(by rw [hX];rfl);have sX:Hid ((Tryz.prog.info? 171).map (·.size)=some X.size∧X.size=11∧X.all (·.oneCell')=true):=(by rw [hX];exact⟨iB,rfl,jk _ _ _ _ _⟩);rw [hV];clear hV hX) |(refine wpList_store_rowAny rfl 171 _ _ rfl rfl w1.heap.size X rfl rfl 171 _ HA1.out sX.out.1 (by rw [sX.out.2.1];rfl) sX.out.2.2 ?_;intro w2 h2 o2;have H2:=zH h2;have O2:=zH o2;have N2:Hid (pF w2 (w.heap.size+1+1+1) ob cap cur (L++[⟨⟨rT,[k],vI⟩,some ⟨lb,lo,none⟩,1⟩])):=((nM.out.opn.only bu.out (by omega)).only (P:=fun _=>False) ((Only.refl _ _).alloc _) (fun h=>h)).only o2 (by omega);have F2:Hid (Fb w2 ob (n*11) 171 cur rT (some ⟨lb,lo,none⟩) (1) 1 vI):=(by rw [Nat.mul_comm,HN.out];exact N2.out.fb (i:=L.length) (m:=⟨⟨rT,[k],vI⟩,some ⟨lb,lo,none⟩,1⟩) (by simp));have c2:w2.cell? ⟨ob,n*11+1,none⟩=some (.slice (some ⟨lb,lo,none⟩) (1) 1):=F2.out.c 1 (by decide);have f2:=F2.out.fz (n*11+1);have N3:Hid (pF (w2.setCell ⟨ob,n*11+1,none⟩ (.slice (some ⟨lb,lo,none⟩) 0 0)) (w.heap.size+1+1+1) ob cap (cur.setIfInBounds (n*11+1) (.slice (some ⟨lb,lo,none⟩) 0 0)) (L++[(⟨⟨rT,[],vI⟩,some ⟨lb,lo,none⟩,0⟩:Fm)])):=(by have e1:11*L.length=n*11:=(by rw [HN.out,Nat.mul_comm]);refine N2.out.set (aa N2.out.2.1 _) ?_ ?_ <;> rw [e1];exact (F2.out.2.Ed _ _ _).1;exact (F2.out.2.Ed _ _ _).2);have HOW:Hid ((w2.setCell ⟨ob,n*11+1,none⟩ (.slice (some ⟨lb,lo,none⟩) 0 0)).ownsRow (w.heap.size+1+1+1) 171 11 (.slice (some ⟨ob,0,none⟩) (n+1) cap) (n+1) (flat (L++[(⟨⟨rT,[],vI⟩,some ⟨lb,lo,none⟩,0⟩:Fm)]))):=(by have h:=N3.out.row;have e2:(L++[(⟨⟨rT,[],vI⟩,some ⟨lb,lo,none⟩,0⟩:Fm)]).length=n+1:=(by simp [HN.out]);rw [e2] at h;exact h);have YQ:Hid ((w2.setCell ⟨ob,n*11+1,none⟩ (.slice (some ⟨lb,lo,none⟩) 0 0)).heap[w1.heap.size]?=some (.cells X 171 (0,0))):=(Below.heap_setCell _ _ _ _ (by show w1.heap.size≠ob;omega)).trans h2;have hbs:w.heap.size+1+1+1≤((w2.setCell ⟨ob,n*11+1,none⟩ (.slice (some ⟨lb,lo,none⟩) 0 0)).alloc (.cells X 171)).heap.size:=(by have:=N3.out.lt;simp only [World.alloc,Array.size_push];omega);clear h2 o2) | refine wpList_load_row rfl 171 _ rfl w1.heap.size rfl 171 _ (0,0) _ YQ.out Tryz.underlying171 rfl sX.out.1 ?_ | refine wpList_buildSlice rfl 172 171 1 _ rfl X ie _ Tryz.underlying172 hie hz0 (by rw [hz1];decide) (by rw [hz1];decide) (um hz1 sX.out.2.1 rfl (by decide)) ?_ |(at_builtin;refine wpList_append_own_at _ rfl _ _ 172 rfl (w.heap.size+1+1+1) 171 ie _ 11 104 Tryz.underlying172 hie hz0 hz1 hz2 rfl (by decide) _ _ _ rfl (HOW.out.alloc (.cells X 171)) ⟨(w2.setCell ⟨ob,n*11+1,none⟩ (.slice (some ⟨lb,lo,none⟩) 0 0)).heap.size,0,none⟩ 1 1 X.toList rfl (by rw [Array.length_toList,sX.out.2.1]) (fun j u hj=>by rw [Addr.add_mid,Nat.zero_add,cell_of_row _ _ _ _ _ _ (heap_alloc_new _ _)];simpa using hj) (fun u hu=>(Array.all_eq_true_iff_forall_mem.1 sX.out.2.2) u (by simpa using hu)) (by unfold maxLen;omega) (by omega) hbs ?_;intro v6 w6 hown6 kE _ _;have Cn:=zH hown6;have UT:Hid (Only (·=ob) ((w2.setCell ⟨ob,n*11+1,none⟩ (.slice (some ⟨lb,lo,none⟩) 0 0)).alloc (.cells X 171)) w6):=(Only.refl (·=ob) _).grown kE (fun k h=>by injection h with h;exact h.symm);clear hown6 kE))
     have Jq:=Cn.out
     rw [HX.out] at Jq
     obtain⟨YR,cap6,Q8,rfl,YS⟩:=pF.push (L:=(L++[(⟨⟨rT,[],vI⟩,some ⟨lb,lo,none⟩,0⟩:Fm)])) (m:=⟨f,fa,fc⟩) (w:=w6) (base:=w.heap.size+1+1+1) (ob:=0) (cap:=0) (cur:=#[]) (by have e2:(L++[(⟨⟨rT,[],vI⟩,some ⟨lb,lo,none⟩,0⟩:Fm)]).length=n+1:=(by simp [HN.out]);rw [e2];exact Jq)
     have q1:Only (fun h=>h=g∨h=ob∨W.heap.size≤h) W w2:=((bu.out.mono (fun _ h=>Or.inl h)).alloc _).trans (O2.out.mono (fun b (h:b=w1.heap.size)=>Or.inr (Or.inr (Nat.le_trans bu.out.size (Nat.le_of_eq h.symm)))))
     have q2:=Only.setCell (S:=fun h=>h=g∨h=ob∨W.heap.size≤h) q1 (p:=⟨ob,n*11+1,none⟩) (Or.inr (Or.inl rfl)) (.slice (some ⟨lb,lo,none⟩) 0 0)
     have Nn:Only (fun h=>h=g∨h=ob∨W.heap.size≤h) W w6:=(q2.alloc _).trans (UT.out.mono (fun _ h=>Or.inr (Or.inl h)))
     have Jr:mV w6 g cl p2 fs vL em:=by
      have a1:mV w2 g cl p2 fs vL em:=(iC.out.only (P:=fun _=>False) ((Only.refl _ _).alloc _) (fun h=>h)).only O2.out (by omega)
      have a2:mV (w2.setCell ⟨ob,n*11+1,none⟩ (.slice (some ⟨lb,lo,none⟩) 0 0)) g cl p2 fs vL em:=(Below.heap_setCell _ _ _ _ (by show g≠ob;omega)).trans a1
      exact (a2.only (P:=fun _=>False) ((Only.refl _ _).alloc _) (fun h=>h)).only UT.out (by omega)
     go_roundg g1
     case measure=>omega
     case rel=>
      refine⟨(L++[(⟨⟨rT,[],vI⟩,some ⟨lb,lo,none⟩,0⟩:Fm)]),⟨f,fa,fc⟩,YR,cap6,Q8,p2,w6,rfl,rfl,?_⟩
      exact nM.out.push YK.out HB.out YS Jr (Lf.nil _ _ _ _) HL2.out _ Nn (fun b h=>by omega)
    ·obtain⟨c3,rfl⟩:∃c3,mc=c3+2:=⟨mc - 2,by omega⟩
     have hmq:c3+2 - 1=c3+1:=by omega
     clear hm1
     go_wp2_with (first |(go_at_call 101;have hc:=qP (fun b=>F b∨b=w.heap.size+1+1) g cl p1 fs vL em k _ W nM.out.pl nM.out.iv.2.1 hcl HT.out;rw [HB.out] at hc;refine hc.mono ?_;clear hc;rintro e w1 ⟨⟨fa,fc,rfl,Jp⟩,hp2,ho1⟩;have bu:=zH ho1;have iC:=zH hp2;have HL2:=zH Jp;have hw1:ob < w1.heap.size:=Nat.lt_of_lt_of_le Jo ho1.size;clear ho1 hp2 Jp;have HA1:Hid ((w1.alloc (.cells #[.int .u8 0,.slice none 0 0,.bool false,.int .u64 0,.int .u64 0,.int .u64 0,.int .u64 0,.int .u64 0,.int .u64 0,.int .u64 0,.int .u64 0] 171)).heap[w1.heap.size]?=some (.cells #[.int .u8 0,.slice none 0 0,.bool false,.int .u64 0,.int .u64 0,.int .u64 0,.int .u64 0,.int .u64 0,.int .u64 0,.int .u64 0,.int .u64 0] 171 (0,0))):=heap_alloc_new _ _;obtain⟨X,hX⟩:∃X,X=PE ⟨f,fa,fc⟩:=⟨_,rfl⟩;have HX:=zH hX;have hV:qK f.op fa f.left.length fc f.nd=.agg X:=(by rw [hX];rfl);have sX:Hid ((Tryz.prog.info? 171).map (·.size)=some X.size∧X.size=11∧X.all (·.oneCell')=true):=(by rw [hX];exact⟨iB,rfl,jk _ _ _ _ _⟩);rw [hV];clear hV hX) |(refine wpList_store_rowAny rfl 171 _ _ rfl rfl w1.heap.size X rfl rfl 171 _ HA1.out sX.out.1 (by rw [sX.out.2.1];rfl) sX.out.2.2 ?_;intro w2 h2 o2;have H2:=zH h2;have O2:=zH o2;have N2:Hid (pF w2 (w.heap.size+1+1+1) ob cap cur (L++[⟨⟨rT,k::ks,vI⟩,some ⟨lb,lo,none⟩,(c3+2)⟩])):=((nM.out.opn.only bu.out (by omega)).only (P:=fun _=>False) ((Only.refl _ _).alloc _) (fun h=>h)).only o2 (by omega);have F2:Hid (Fb w2 ob (n*11) 171 cur rT (some ⟨lb,lo,none⟩) (ks.length+1) (c3+2) vI):=(by rw [Nat.mul_comm,HN.out];exact N2.out.fb (i:=L.length) (m:=⟨⟨rT,k::ks,vI⟩,some ⟨lb,lo,none⟩,(c3+2)⟩) (by simp));have c2:w2.cell? ⟨ob,n*11+1,none⟩=some (.slice (some ⟨lb,lo,none⟩) (ks.length+1) (c3+2)):=F2.out.c 1 (by decide);have f2:=F2.out.fz (n*11+1);have N3:Hid (pF (w2.setCell ⟨ob,n*11+1,none⟩ (.slice (some ⟨lb,lo+3,none⟩) ks.length (c3+1))) (w.heap.size+1+1+1) ob cap (cur.setIfInBounds (n*11+1) (.slice (some ⟨lb,lo+3,none⟩) ks.length (c3+1))) (L++[(⟨⟨rT,ks,vI⟩,some ⟨lb,lo+3,none⟩,(c3+1)⟩:Fm)])):=(by have e1:11*L.length=n*11:=(by rw [HN.out,Nat.mul_comm]);refine N2.out.set (aa N2.out.2.1 _) ?_ ?_ <;> rw [e1];exact (F2.out.2.Ed _ _ _).1;exact (F2.out.2.Ed _ _ _).2);have HOW:Hid ((w2.setCell ⟨ob,n*11+1,none⟩ (.slice (some ⟨lb,lo+3,none⟩) ks.length (c3+1))).ownsRow (w.heap.size+1+1+1) 171 11 (.slice (some ⟨ob,0,none⟩) (n+1) cap) (n+1) (flat (L++[(⟨⟨rT,ks,vI⟩,some ⟨lb,lo+3,none⟩,(c3+1)⟩:Fm)]))):=(by have h:=N3.out.row;have e2:(L++[(⟨⟨rT,ks,vI⟩,some ⟨lb,lo+3,none⟩,(c3+1)⟩:Fm)]).length=n+1:=(by simp [HN.out]);rw [e2] at h;exact h);have YQ:Hid ((w2.setCell ⟨ob,n*11+1,none⟩ (.slice (some ⟨lb,lo+3,none⟩) ks.length (c3+1))).heap[w1.heap.size]?=some (.cells X 171 (0,0))):=(Below.heap_setCell _ _ _ _ (by show w1.heap.size≠ob;omega)).trans h2;have hbs:w.heap.size+1+1+1≤((w2.setCell ⟨ob,n*11+1,none⟩ (.slice (some ⟨lb,lo+3,none⟩) ks.length (c3+1))).alloc (.cells X 171)).heap.size:=(by have:=N3.out.lt;simp only [World.alloc,Array.size_push];omega);clear h2 o2) | refine wpList_load_row rfl 171 _ rfl w1.heap.size rfl 171 _ (0,0) _ YQ.out Tryz.underlying171 rfl sX.out.1 ?_ | refine wpList_buildSlice rfl 172 171 1 _ rfl X ie _ Tryz.underlying172 hie hz0 (by rw [hz1];decide) (by rw [hz1];decide) (um hz1 sX.out.2.1 rfl (by decide)) ?_ |(at_builtin;refine wpList_append_own_at _ rfl _ _ 172 rfl (w.heap.size+1+1+1) 171 ie _ 11 104 Tryz.underlying172 hie hz0 hz1 hz2 rfl (by decide) _ _ _ rfl (HOW.out.alloc (.cells X 171)) ⟨(w2.setCell ⟨ob,n*11+1,none⟩ (.slice (some ⟨lb,lo+3,none⟩) ks.length (c3+1))).heap.size,0,none⟩ 1 1 X.toList rfl (by rw [Array.length_toList,sX.out.2.1]) (fun j u hj=>by rw [Addr.add_mid,Nat.zero_add,cell_of_row _ _ _ _ _ _ (heap_alloc_new _ _)];simpa using hj) (fun u hu=>(Array.all_eq_true_iff_forall_mem.1 sX.out.2.2) u (by simpa using hu)) (by unfold maxLen;omega) (by omega) hbs ?_;intro v6 w6 hown6 kE _ _;have Cn:=zH hown6;have UT:Hid (Only (·=ob) ((w2.setCell ⟨ob,n*11+1,none⟩ (.slice (some ⟨lb,lo+3,none⟩) ks.length (c3+1))).alloc (.cells X 171)) w6):=(Only.refl (·=ob) _).grown kE (fun k h=>by injection h with h;exact h.symm);clear hown6 kE))
     have Jq:=Cn.out
     rw [HX.out] at Jq
     obtain⟨YR,cap6,Q8,rfl,YS⟩:=pF.push (L:=(L++[(⟨⟨rT,ks,vI⟩,some ⟨lb,lo+3,none⟩,(c3+1)⟩:Fm)])) (m:=⟨f,fa,fc⟩) (w:=w6) (base:=w.heap.size+1+1+1) (ob:=0) (cap:=0) (cur:=#[]) (by have e2:(L++[(⟨⟨rT,ks,vI⟩,some ⟨lb,lo+3,none⟩,(c3+1)⟩:Fm)]).length=n+1:=(by simp [HN.out]);rw [e2];exact Jq)
     have q1:Only (fun h=>h=g∨h=ob∨W.heap.size≤h) W w2:=((bu.out.mono (fun _ h=>Or.inl h)).alloc _).trans (O2.out.mono (fun b (h:b=w1.heap.size)=>Or.inr (Or.inr (Nat.le_trans bu.out.size (Nat.le_of_eq h.symm)))))
     have q2:=Only.setCell (S:=fun h=>h=g∨h=ob∨W.heap.size≤h) q1 (p:=⟨ob,n*11+1,none⟩) (Or.inr (Or.inl rfl)) (.slice (some ⟨lb,lo+3,none⟩) ks.length (c3+1))
     have Nn:Only (fun h=>h=g∨h=ob∨W.heap.size≤h) W w6:=(q2.alloc _).trans (UT.out.mono (fun _ h=>Or.inr (Or.inl h)))
     have Jr:mV w6 g cl p2 fs vL em:=by
      have a1:mV w2 g cl p2 fs vL em:=(iC.out.only (P:=fun _=>False) ((Only.refl _ _).alloc _) (fun h=>h)).only O2.out (by omega)
      have a2:mV (w2.setCell ⟨ob,n*11+1,none⟩ (.slice (some ⟨lb,lo+3,none⟩) ks.length (c3+1))) g cl p2 fs vL em:=(Below.heap_setCell _ _ _ _ (by show g≠ob;omega)).trans a1
      exact (a2.only (P:=fun _=>False) ((Only.refl _ _).alloc _) (fun h=>h)).only UT.out (by omega)
     go_roundg g1
     case measure=>omega
     case rel=>
      refine⟨(L++[(⟨⟨rT,ks,vI⟩,some ⟨lb,lo+3,none⟩,(c3+1)⟩:Fm)]),⟨f,fa,fc⟩,YR,cap6,Q8,p2,w6,rfl,rfl,?_⟩
      exact nM.out.push YK.out HB.out YS Jr YO.out.tail HL2.out _ Nn (fun b h=>by omega)
end Go.Proofs.YtdlabakleldgaaaGreatDoor
