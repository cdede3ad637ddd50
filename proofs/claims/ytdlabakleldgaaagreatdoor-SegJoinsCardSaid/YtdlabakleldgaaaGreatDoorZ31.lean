/- LCk LCk2 LCb LPa -/
import Derived.Test.YtdlabakleldgaaaGreatDoorZ00
import Derived.Test.YtdlabakleldgaaaGreatDoorZ28
import Derived.Test.YtdlabakleldgaaaGreatDoorZ26
set_option linter.unusedVariables false
set_option linter.unusedSimpArgs false
set_option maxRecDepth 100000
set_option maxHeartbeats 8000000
namespace Go.Proofs.YtdlabakleldgaaaGreatDoor.L
open Go.RowKit Go.Maps
theorem De (aO:Option Addr) (cO n nc bn on cN:Nat) (nx:Nat→Nat→Nat) (w:World) (h0:0 < n) (hn:n≤100000) (hc:nc≤100000) (hN:MM w n nc bn on nx):
  Calls Tryz.prog 75 #[.agg #[.slice (some ⟨bn,on,none⟩) n cN,.slice aO n cO]] w fun e w'=>e=.returned (.bool true)∧Only (fun _=>False) w w':=by
 have HN:=zH hN
 obtain⟨a0,c0,hc0,_⟩:=hN 0 h0
 rw [Nat.add_zero] at hc0
 have lbn:=World.block_lt_of_cell? w _ hc0
 have t0:(0:Int) <(n:Int):=by omega
 have e0:((n:Int)==0)=false:=by rw [beq_eq_false_iff_ne];omega
 have e1:((n:Int)==(n:Int))=true:=by simp
 have e2:((nc:Int)==(nc:Int))=true:=by simp
 clear hN
 obtain⟨W,hW⟩:∃W,W=w.alloc (.cells #[.slice (some ⟨bn,on,none⟩) n cN,.slice aO n cO] 71):=⟨_,rfl⟩
 have HW:Hid (W.heap[w.heap.size]?=some (.cells #[.slice (some ⟨bn,on,none⟩) n cN,.slice aO n cO] 71 (0,0))∧Only (fun _=>False) w W):=by rw [hW];exact⟨heap_alloc_new w _,(Only.refl _ _).alloc _⟩
 have p0:W.cell? ⟨w.heap.size,0,none⟩=some (.slice (some ⟨bn,on,none⟩) n cN):=ae HW.out.1
 have p1:W.cell? ⟨w.heap.size,1,none⟩=some (.slice aO n cO):=ae HW.out.1
 have lp:=World.block_lt_of_cell? W _ p0
 have p2:W.cell? ⟨bn,on,none⟩=some (.slice a0 nc c0):=(World.cell?_of_block (a:=⟨bn,on,none⟩) (HW.out.2.block bn lbn (fun h=>h))).trans hc0
 have lbW:=World.block_lt_of_cell? W _ p2
 go_enter Tryz.func75,Tryz.ntmps75
 go_wp2_with fail
 rw [←hW]
 clear hW hc0
 go_loopg [23] n (fun gh v wr=>∃(s:Nat),W=wr∧gh=n - s∧s≤n∧v=.int .i64 (s:Int))
 case atStart=>exact⟨0,rfl,rfl,Nat.zero_le _,rfl⟩
 case round=>
  obtain⟨s,hY,rfl,hs,rfl⟩:=hrel
  subst hY
  by_cases hlt:s < n
  ·have t1:(s:Int) <(n:Int):=by omega
   obtain⟨a1,c1,n1,n2⟩:=(HN.out.keep HW.out.2) s hlt
   have Er:=zH n2
   have l1:=World.block_lt_of_cell? W _ n1
   clear n2
   go_wp2_with fail
   go_loopg [37] nc (fun gh v wr=>∃(k:Nat),W=wr∧gh=nc - k∧k≤nc∧v=.int .i64 (k:Int))
   case atStart=>exact⟨0,rfl,rfl,Nat.zero_le _,rfl⟩
   case round=>
    obtain⟨k,hY,rfl,hk,rfl⟩:=hrel
    subst hY
    by_cases hlt2:k < nc
    ·have t3:(k:Int) <(nc:Int):=by omega
     obtain⟨b,o,rfl,q1,q2⟩:=Er.out k hlt2
     have l2:=World.block_lt_of_cell? W _ q1
     have t4:decide ((nx s k:Int) < 0)=false:=decide_eq_false (by omega)
     have t5:decide ((n:Int)≤(nx s k:Int))=false:=decide_eq_false (by omega)
     go_wp2_with fail
     go_roundg (nc -(k+1))
     case measure=>omega
     case rel=>exact⟨k+1,rfl,rfl,by omega,by go_num⟩
    ·have t4:decide ((k:Int) <(nc:Int))=false:=decide_eq_false (by omega)
     go_wp2_with fail
     go_roundg (n -(s+1))
     case measure=>omega
     case rel=>exact⟨s+1,rfl,rfl,by omega,by go_num⟩
  ·have t2:decide ((s:Int) <(n:Int))=false:=decide_eq_false (by omega)
   go_wp2_with fail
   go_ret
   exact⟨rfl,HW.out.2⟩
def Any (W:World) (n bn on:Nat) (len:Nat→Nat) (val:Nat→Nat→Int):Prop:=∀s,s < n→∃a c,W.cell? ⟨bn,on+s,none⟩=some (.slice a (len s) c)∧∀k,k < len s→∃b o,a=some ⟨b,o,none⟩∧W.cell? ⟨b,o+k,none⟩=some (.int .i64 (val s k))
structure Mt (w:World) (pg pm gb B1:Nat) (vm:Value) (mt:List Nat) (ls:List (Nat × Nat × Nat)):Prop where
 g:w.heap[pg]?=some (.cells #[.pointer (some ⟨gb,0,none⟩)] 155 (0,0))
 m:w.heap[pm]?=some (.cells #[vm] 28 (0,0))
 own:w.ownsRow (pm+1) 3 1 vm mt.length (nums mt).toList
 b1:B1≤pg
 b2:B1≤pm
 pp:pg < pm
 nd:mt.Nodup
 mem:∀x:Nat,x∈mt↔∃f t d,ls[x]?=some (f,t,d)∧0 < d
structure Kt (rb ab pm:Nat) (vL:Value) (w w':World):Prop where
 os:w'.os=w.os
 tape:w'.tape=w.tape
 output:w'.output=w.output
 size:w.heap.size≤w'.heap.size
 keep:∀b o,w.heap[b]?=some o→b≠rb→b≠ab→vL.ownBlock≠some b→b≠pm→(b < pm∨∀cur z,o≠.cells cur 3 z)→w'.heap[b]?=some o
theorem Kt.refl (rb ab pm:Nat) (vL:Value) (w:World):Kt rb ab pm vL w w:=⟨rfl,rfl,rfl,Nat.le_refl _,fun _ _ h _ _ _ _ _=>h⟩
theorem Kt.trans {rb ab pm:Nat} {vL:Value} {a b c:World} (h:Kt rb ab pm vL a b) (k:Kt rb ab pm vL b c):Kt rb ab pm vL a c:=
 ⟨k.os.trans h.os,k.tape.trans h.tape,k.output.trans h.output,Nat.le_trans h.size k.size,fun x o h1 h2 h3 h4 h5 h6=>k.keep x o (h.keep x o h1 h2 h3 h4 h5 h6) h2 h3 h4 h5 h6⟩
theorem Kt.of {rb ab pm:Nat} {vL:Value} {S:Nat→Prop} {w w':World} (h:Only S w w') (hS:∀b o,S b→w.heap[b]?=some o→b=rb∨b=ab∨vL.ownBlock=some b∨b=pm∨(pm≤b∧∃cur z,o=.cells cur 3 z)):Kt rb ab pm vL w w':=
 ⟨h.os,h.tape,h.output,h.size,fun b o h1 h2 h3 h4 h5 h6=>(h.block b (Array.getElem?_eq_some_iff.1 h1).1 (fun hs=>by
  rcases hS b o hs h1 with e | e | e | e | ⟨e,cur,z,e2⟩
  ·exact h2 e
  ·exact h3 e
  ·exact h4 e
  ·exact h5 e
  ·rcases h6 with h6 | h6
   ·omega
   ·exact h6 cur z e2)).trans h1⟩
theorem Kt.alloc {rb ab pm:Nat} {vL:Value} {a w:World} (h:Kt rb ab pm vL a w) (o:Obj):Kt rb ab pm vL a (w.alloc o):=h.trans (Kt.of ((Only.refl (fun _=>False) w).alloc o) (fun _ _ h=>h.elim))
def Sy (w:World) (gb rb ab ob n base B1 pg pm:Nat) (vL:Value) (of:List Nat) (K:Nat) (T:Nat→Prop) (e:Ending) (w':World):Prop:=
 e=.returned (.tuple #[])∧∃row at' ls vm mt,Ms w' gb rb ab ob n base B1 vL row at' of ls∧Hm.Pt n row at' of ls T∧Mt w' pg pm gb B1 vm mt ls∧ls.length=K∧Kt rb ab pm vL w w'
theorem q8:∀(K:Nat) (mt:List Nat),mt.Nodup→(∀x∈mt,x < K)→mt.length≤K
 | 0,mt,h,hk=>by
  cases mt with
  | nil=>simp
  | cons x l=>have:=hk x (by simp);omega
 | K+1,mt,h,hk=>by
  by_cases hm:K∈mt
  ·have:=q8 K (mt.erase K) (h.erase K) (fun x hx=>by
    have h1:=(h.mem_erase_iff.1 hx)
    have:=hk x h1.2
    omega)
   rw [List.length_erase_of_mem hm] at this
   omega
  ·have:=q8 K mt h (fun x hx=>by
    have:=hk x hx
    have:x≠K:=fun e=>hm (e ▸ hx)
    omega)
   omega
theorem info3:(Tryz.prog.info? 3).map (fun i=>(i.zero,i.size,i.bytes))=some (some (.int .i64 0),1,8):=by kernel_rfl
theorem KU {ls:List (Nat × Nat × Nat)} {g f t d:Nat} (h:ls[g]?=some (f,t,d)) {mt:List Nat} (hm:∀x:Nat,x∈mt↔((∃f t d,ls[x]?=some (f,t,d)∧0 < d)∨x=g)):∀x:Nat,x∈mt↔∃f' t' d',(ls.set g (f,t,d+1))[x]?=some (f',t',d')∧0 < d':=fun x=>by
 rw [hm x,Hm.kM (List.getElem?_eq_some_iff.1 h).1]
 by_cases e:g=x
 ·subst e
  rw [if_pos rfl]
  exact⟨fun _=>⟨f,t,d+1,rfl,by omega⟩,fun _=>Or.inr rfl⟩
 ·rw [if_neg e]
  exact⟨fun h=>h.elim id (fun e2=>absurd e2.symm e),Or.inl⟩
theorem Ms.ne {w:World} {gb rb ab ob n base B1 lb cap:Nat} {row at' of:List Nat} {ls:List (Nat × Nat × Nat)} (h:Ms w gb rb ab ob n base B1 (.slice (some ⟨lb,0,none⟩) ls.length cap) row at' of ls):lb≠rb∧lb≠ab∧lb≠ob∧lb≠gb:=by
 obtain⟨_,_,_,cur,eT⟩:=eZ h.L
 have nb:∀ {b:Nat} {l:List Nat},Nb w b l→lb≠b:=fun {b l} hb e=>by
  subst e
  unfold Nb at hb
  rw [eT] at hb
  injection hb with hb
  injection hb with _ hb
  cases hb
 refine⟨nb h.r,nb h.a,nb h.o,fun e=>?_⟩
 subst e
 have:=h.G
 unfold Gb at this
 rw [eT] at this
 injection this with this
 injection this with _ this
 cases this
theorem Sz {S:Nat→Prop} {w w':World} {base e size n cap lb:Nat} {xs:List Value} (h:w.ownsRow base e size (.slice (some ⟨lb,0,none⟩) n cap) n xs) (ho:Only S w w') (hS:¬ S lb):w'.ownsRow base e size (.slice (some ⟨lb,0,none⟩) n cap) n xs:=by
 obtain⟨hl,h | ⟨g',cap',cur,hv,h1,h2,h3⟩⟩:=h
 ·exact⟨hl,Or.inl h⟩
 ·injection hv with hv1 hv2 hv3
  injection hv1 with hv1
  injection hv1 with hv1
  subst hv1
  subst hv3
  exact⟨hl,Or.inr ⟨lb,cap,cur,rfl,h1,(ho.block lb (Array.getElem?_eq_some_iff.1 h2).1 hS).trans h2,h3⟩⟩
theorem Ms.Wd {S:Nat→Prop} {w w':World} {gb rb ab ob n base B1 lb cap:Nat} {row at' of:List Nat} {ls:List (Nat × Nat × Nat)} (h:Ms w gb rb ab ob n base B1 (.slice (some ⟨lb,0,none⟩) ls.length cap) row at' of ls) (ho:Only S w w') (h1:∀b,S b→B1≤b) (h2:¬ S lb):Ms w' gb rb ab ob n base B1 (.slice (some ⟨lb,0,none⟩) ls.length cap) row at' of ls:=
 ⟨h.G.only ho (fun hs=>by have:=h1 _ hs;have:=h.hi.1;omega),h.r.only ho (fun hs=>by have:=h1 _ hs;have:=h.hi.2.1;omega),h.a.only ho (fun hs=>by have:=h1 _ hs;have:=h.hi.2.2.1;omega),h.o.only ho (fun hs=>by have:=h1 _ hs;have:=h.hi.2.2.2;omega),Sz h.L ho h2,h.ra,h.ro,h.ao,h.lo,h.hi,h.kl,h.kn,h.n1⟩
theorem Ms.told {w w2:World} {gb rb ab ob n base B1 lb cap g f t d s p u q:Nat} {row at' of:List Nat} {ls:List (Nat × Nat × Nat)} (h:Ms w gb rb ab ob n base B1 (.slice (some ⟨lb,0,none⟩) ls.length cap) row at' of ls) (ho:Only (fun b=>b=rb∨b=ab) w w2) (hr:Nb w2 rb ((row.set p u).set q s)) (ha:Nb w2 ab ((at'.set s q).set u p)) (hl:ls[g]?=some (f,t,d)):
  Ms (w2.setCell ⟨lb,g*3+2,none⟩ (.int .i64 ((d+1:Nat):Int))) gb rb ab ob n base B1 (.slice (some ⟨lb,0,none⟩) ls.length cap) ((row.set p u).set q s) ((at'.set s q).set u p) of (ls.set g (f,t,d+1))∧(∃cur,w2.heap[lb]?=some (.cells cur 168 (0,0)))∧lb≠rb∧lb≠ab∧lb≠ob∧lb≠gb:=by
 obtain⟨_,_,_,cur,eT⟩:=eZ h.L
 have nb:∀ {b:Nat} {l:List Nat},Nb w b l→lb≠b:=fun {b l} hb e=>by
  subst e
  unfold Nb at hb
  rw [eT] at hb
  injection hb with hb
  injection hb with _ hb
  cases hb
 have ng:lb≠gb:=fun e=>by
  subst e
  have:=h.G
  unfold Gb at this
  rw [eT] at this
  injection this with this
  injection this with _ this
  cases this
 have n1:=nb h.r
 have n2:=nb h.a
 have n3:=nb h.o
 have hgr:=h.G.ne h.r
 have hga:=h.G.ne h.a
 have We:w2.heap[lb]?=some (.cells cur 168 (0,0)):=(ho.block lb (Array.getElem?_eq_some_iff.1 eT).1 (fun hs=>hs.elim n1 n2)).trans eT
 have hgl:=(List.getElem?_eq_some_iff.1 hl).1
 have hL2:w2.ownsRow base 168 3 (.slice (some ⟨lb,0,none⟩) ls.length cap) ls.length (jY ls):=bq h.L ho (fun c cur' hs hc=>by
  rcases hs with rfl | rfl
  ·have:=h.r;unfold Nb at this;rw [this] at hc;injection hc with hc;injection hc with _ hc;cases hc
  ·have:=h.a;unfold Nb at this;rw [this] at hc;injection hc with hc;injection hc with _ hc;cases hc)
 have hL3:=fP hL2 (g*3+2) (by omega) (.int .i64 ((d+1:Nat):Int))
 rw [KJ hl (d+1)] at hL3
 refine⟨⟨(h.G.only ho (fun hs=>hs.elim hgr hga)).off (fun e=>ng e.symm) _ _,hr.off n1.symm _ _,ha.off n2.symm _ _,(h.o.only ho (fun hs=>hs.elim (fun e=>h.ro e.symm) (fun e=>h.ao e.symm))).off n3.symm _ _,?_,h.ra,h.ro,h.ao,h.lo,h.hi,by rw [List.length_set];exact h.kl,by rw [List.length_set];exact h.kn,h.n1⟩,⟨cur,We⟩,n1,n2,n3,ng⟩
 rw [List.length_set]
 exact hL3
theorem wp_at {P:Program} {c:Code} {Q:Exit→Act→World→Prop} {a:Act} {X w:World} (h:X=w) (k:c.wp P Q a X):c.wp P Q a w:=h ▸ k
theorem tell_do (gb rb ab ob n base B1 pg pm K:Nat) (vL:Value) (row at' of:List Nat) (ls:List (Nat × Nat × Nat)) (T:Nat→Prop) (vm:Value) (mt:List Nat) (s g f t d p u:Nat) (w:World) (hM:Ms w gb rb ab ob n base B1 vL row at' of ls) (hP:Hm.Pt n row at' of ls T) (hT:Mt w pg pm gb B1 vm mt ls) (hs:s < n) (hn:¬ T s) (hK:ls.length=K)
  (hg:of[s]?=some g) (hl:ls[g]?=some (f,t,d)) (hp:at'[s]?=some p) (hu:row[f+d]?=some u) (Df:∀b,vL.ownBlock=some b→b < pm):Calls Tryz.prog 117 #[.int .i64 (s:Int),.pointer (some ⟨pg,0,none⟩),.pointer (some ⟨pm,0,none⟩)] w (Sy w gb rb ab ob n base B1 pg pm vL of K (fun x=>T x∨x=s)):=by
 obtain⟨lb,cap,rfl,GR,AA,hcap,m_,hcell,cur,eT⟩:=hM.nl
 have hgl:=(List.getElem?_eq_some_iff.1 hl).1
 obtain⟨q0,q1,q2⟩:=jF ls g f t d hl
 have n1:=hM.n1
 have kn:=hM.kn
 have SA:=(List.getElem?_eq_some_iff.1 hu).1
 have hrl:=hP.rl
 have hrow:=hP.ar s p hp
 have hpl:=(List.getElem?_eq_some_iff.1 hrow).1
 obtain⟨hun,Yb⟩:=hP.ra _ _ hu
 have hft:f+d < n∧p < n:=by omega
 have z0:w.cell? ⟨pg,0,none⟩=some (.pointer (some ⟨gb,0,none⟩)):=ae hT.g
 have z1:w.cell? ⟨gb,1,none⟩=some (.slice (some ⟨ab,0,none⟩) n n):=ae hM.G
 have z2:w.cell? ⟨gb,2,none⟩=some (.slice (some ⟨ob,0,none⟩) n n):=ae hM.G
 have z3:w.cell? ⟨gb,3,none⟩=some (.slice (some ⟨lb,0,none⟩) ls.length cap):=ae hM.G
 have z4:w.cell? ⟨ob,s,none⟩=some (.int .i64 (g:Int)):=hM.o.cell hg
 have z5:w.cell? ⟨ab,s,none⟩=some (.int .i64 (p:Int)):=hM.a.cell hp
 have z6:w.cell? ⟨lb,g*3,none⟩=some (.int .i64 (f:Int)):=(hcell _ (by omega)).trans q0
 have z7:w.cell? ⟨lb,g*3+2,none⟩=some (.int .i64 (d:Int)):=(hcell _ (by omega)).trans q2
 have z8:w.cell? ⟨pm,0,none⟩=some vm:=ae hT.m
 have EN:=hM.G.lt
 have lab:=hM.a.lt
 have lob:=hM.o.lt
 have Ul:=(Array.getElem?_eq_some_iff.1 hT.g).1
 have Um:=(Array.getElem?_eq_some_iff.1 hT.m).1
 have i1:(s:Int) <(n:Int):=by omega
 have i2:(g:Int) <(ls.length:Int):=by omega
 obtain⟨K',hK'⟩:∃K',K'=ls.length:=⟨_,rfl⟩
 rw [←hK'] at z3 i2
 have HK2:=zH hK'
 have HM:=zH hM
 have HP:=zH hP
 have HT:=zH hT
 have hpn:p < n:=hft.2
 obtain⟨q,hq⟩:∃q,q=f+d:=⟨_,rfl⟩
 have HQ:=zH hq
 have Iy:q < n:=by omega
 have hsum:(f:Int)+(d:Int)=(q:Int):=by omega
 have hsw:IntKind.i64.wrap ((f:Int)+(d:Int))=(q:Int):=by rw [hsum];exact wrap_small _ (by omega) (by omega)
 have hfn:f+d < n:=hft.1
 have hdn:d < n:=by omega
 have Z6:f < n:=by omega
 rw [←hq] at hu
 have HF:Hid (ls.length=K∧of[s]?=some g∧ls[g]?=some (f,t,d)∧at'[s]?=some p∧row[q]?=some u∧row[p]?=some s∧g < ls.length):=⟨hK,hg,hl,hp,hu,hrow,hgl⟩
 have HD:Hid (d=d):=rfl
 by_cases hd:d=0
 focus
  have HNG:Hid (g∉mt):=fun h=>by
   obtain⟨f',t',d',h1,h2⟩:=(hT.mem g).1 h
   rw [hl] at h1
   injection h1 with h1
   simp only [Prod.mk.injEq] at h1
   omega
  have hlen:mt.length≤n:=by
   have:=q8 ls.length mt hT.nd (fun x hx=>by obtain⟨f',t',d',h1,_⟩:=(hT.mem x).1 hx;exact (List.getElem?_eq_some_iff.1 h1).1)
   omega
  have Z_:=hT.pp
  have abw:lb < pm:=Df lb rfl
  have hd0:d=0:=hd
  have e1:((d:Int)==0)=true:=by rw [hd0];rfl
  obtain⟨i3,g3,Iq,Ir,Iu⟩:=info_parts info3
  obtain⟨am,cm,rfl⟩:=ah hT.own
  obtain⟨ml,g_⟩:∃ml,ml=mt.length:=⟨_,rfl⟩
  have BN:=zH g_
  rw [←g_] at z8 hlen
  have HOWN:Hid ((w.alloc (.cells #[.int .i64 (g:Int)] 3)).ownsRow (pm+1) 3 1 (.slice am ml cm) ml (nums mt).toList):=by rw [g_];exact hT.own.alloc _
  have HFZ:Hid (w.frozen? ⟨pm,0,none⟩=false):=ak hT.m 0
  have HTM:Hid (w.heap[pm]?=some (.cells #[.slice am ml cm] 28 (0,0))):=by rw [g_];exact hT.m
  clear hM hP hT hK hg hl hp hu hrow hgl hcell eT q0 q1 q2 hK' SA hrl hpl Yb hft hq g_ hd hd0 Df
  go_enter Tryz.func117,Tryz.ntmps117
  go_wp2_with (first |(at_builtin;refine wpList_append_own_at _ rfl _ _ 28 rfl (pm+1) 3 i3 (.int .i64 0) 1 8 Tryz.underlying28 g3 Iq Ir Iu rfl (by decide) (.slice am ml cm) ml (nums mt).toList rfl HOWN.out ⟨w.heap.size,0,none⟩ 1 1 [.int .i64 (g:Int)] rfl rfl (ja w _ _) (fun u hu=>by simp at hu;subst hu;rfl) (by unfold maxLen;omega) (by omega) (by simp;omega) ?_;intro v3 w3 ho3 hg3 _ yG;obtain⟨a3,c3,rfl⟩:=ah ho3;have fK:=zH ho3;have GK:Hid (Only (fun b=>pm < b) w w3):=(by
    have hb:∀k,(Value.slice am ml cm).ownBlock=some k→pm < k:=fun k hk=>(by
     obtain⟨_,⟨hv,_⟩ | ⟨g',cap',cur',hv,h1,_⟩⟩:=HOWN.out
     ·rw [hv] at hk;cases hk
     ·rw [hv] at hk;injection hk with hk;subst hk;exact h1)
    exact ((Only.refl (fun b=>pm < b) w).alloc _).grown hg3 hb);have HK4:Hid (Only (fun b=>(Value.slice am ml cm).ownBlock=some b) w w3):=((Only.refl _ w).alloc _).grown hg3 (fun k hk=>hk);have c8:w3.cell? ⟨pm,0,none⟩=some (.slice am ml cm):=(World.cell?_of_block (a:=⟨pm,0,none⟩) (GK.out.block pm Um (fun h=>by omega))).trans z8;have f8:w3.frozen? ⟨pm,0,none⟩=false:=ak ((GK.out.block pm Um (fun h=>by omega)).trans HTM.out) 0;have l8:pm < w3.heap.size:=Nat.lt_of_lt_of_le Um GK.out.size;clear ho3 hg3 yG))
  obtain⟨X,hX⟩:∃X,X=w3.setCell ⟨pm,0,none⟩ (.slice a3 (ml+1) c3):=⟨_,rfl⟩
  have Sl:Hid (Only (fun b=>pm≤b) w X):=by rw [hX];exact (GK.out.mono (fun b h=>Nat.le_of_lt h)).setCell (p:=⟨pm,0,none⟩) (Nat.le_refl _) _
  have aaa:Hid (Only (fun b=>b=pm∨(Value.slice am ml cm).ownBlock=some b) w X):=by rw [hX];exact (HK4.out.mono (S':=fun b=>b=pm∨(Value.slice am ml cm).ownBlock=some b) (fun b h=>Or.inr h)).setCell (p:=⟨pm,0,none⟩) (Or.inl rfl) _
  have HXM:Hid (X.heap[pm]?=some (.cells #[.slice a3 (ml+1) c3] 28 (0,0))):=by rw [hX];exact aa ((GK.out.block pm Um (fun h=>by omega)).trans HTM.out) _
  have HXW:Hid (X.ownsRow (pm+1) 3 1 (.slice a3 (ml+1) c3) (ml+1) ((nums mt).toList++[.int .i64 (g:Int)])):=by rw [hX];exact ai fK.out ((Only.refl (fun b=>b=pm) w3).setCell (p:=⟨pm,0,none⟩) rfl _) (fun g hg hs=>by omega)
  rw [←hX]
  clear hX c8 f8 l8
  have b1:=HT.out.b1
  have hh:=HM.out.hi
  have kk:∀(b k:Nat) (v:Value),b < pm→w.cell? ⟨b,k,none⟩=some v→X.cell? ⟨b,k,none⟩=some v:=fun b k v hb hv=>(World.cell?_of_block (a:=⟨b,k,none⟩) (Sl.out.block b (World.block_lt_of_cell? w _ hv) (fun hs=>by omega))).trans hv
  have y0:=kk _ _ _ (by omega) z0
  have y1:=kk _ _ _ (by omega) z1
  have y3:=kk _ _ _ (by omega) z3
  have y5:=kk _ _ _ (by omega) z5
  have y6:=kk _ _ _ (by omega) z6
  have y7:=kk _ _ _ (by omega) z7
  have Wm:gb < X.heap.size:=Nat.lt_of_lt_of_le EN Sl.out.size
  have Wo:pg < X.heap.size:=Nat.lt_of_lt_of_le Ul Sl.out.size
  clear z0 z1 z2 z3 z4 z5 z6 z7 z8 kk EN lab lob Ul Um
  have z0:=y0
  have z1:=y1
  have z2:=y1
  have z3:=y3
  have z4:=y1
  have z5:=y5
  have z6:=y6
  have z7:=y7
  have z8:=y1
  have EN:=Wm
  have Ul:=Wo
  clear y0 y1 y3 y5 y6 y7 Wm Wo
  obtain⟨SB,Wh⟩:∃v,v=Value.slice a3 (ml+1) c3:=⟨_,rfl⟩
  obtain⟨KV,Un⟩:∃m,m=mt++[g]:=⟨_,rfl⟩
  have ib:Hid (X.heap[pg]?=some (.cells #[.pointer (some ⟨gb,0,none⟩)] 155 (0,0))∧X.heap[pm]?=some (.cells #[SB] 28 (0,0))∧X.ownsRow (pm+1) 3 1 SB KV.length (nums KV).toList∧B1≤pg∧B1≤pm∧KV.Nodup∧∀x:Nat,x∈KV↔((∃f t d,ls[x]?=some (f,t,d)∧0 < d)∨x=g)):=by
   rw [Wh,Un]
   refine⟨(Sl.out.block pg (Array.getElem?_eq_some_iff.1 HT.out.g).1 (fun hs=>by omega)).trans HT.out.g,HXM.out,?_,HT.out.b1,HT.out.b2,?_,fun x=>?_⟩
   ·have e:(nums (mt++[g])).toList=(nums mt).toList++[.int .i64 (g:Int)]:=by simp [nums]
    rw [e,List.length_append,←BN.out]
    exact HXW.out
   ·exact List.nodup_append.2 ⟨HT.out.nd,by simp,fun a ha b hb e=>by simp at hb;subst hb;subst e;exact HNG.out ha⟩
   ·rw [List.mem_append,HT.out.mem x]
    simp
  clear Wh Un
  have iP:Hid (Ms X gb rb ab ob n base B1 (.slice (some ⟨lb,0,none⟩) ls.length cap) row at' of ls):=HM.out.Wd (S:=fun b=>pm≤b) Sl.out (fun b hb=>by have:=HT.out.b2;omega) (by omega)
  have HOW:Hid (Kt rb ab pm (.slice (some ⟨lb,0,none⟩) ls.length cap) w X):=Kt.of aaa.out (fun b o hb ho=>by
   rcases hb with hb | hb
   ·exact Or.inr (Or.inr (Or.inr (Or.inl hb)))
   ·obtain⟨_,⟨hv,_⟩ | ⟨g',cap',cur',hv,h1,h2,_⟩⟩:=HT.out.own
    ·rw [←BN.out] at hv
     rw [hv] at hb
     cases hb
    ·rw [←BN.out] at hv
     rw [hv] at hb
     injection hb with hb
     subst hb
     rw [h2] at ho
     injection ho with ho
     exact Or.inr (Or.inr (Or.inr (Or.inr ⟨Nat.le_of_lt h1,cur',_,ho.symm⟩))))
  clear b1 hh
 rotate_left
 focus
  have hd:0 < d:=by omega
  have e1:¬(d:Int)=0:=by omega
  have e2:((d:Int)==0)=false:=by simpa using e1
  have HGM:Hid (g∈mt):=(hT.mem g).2 ⟨f,t,d,hl,hd⟩
  clear hM hP hT hK hg hl hp hu hrow hgl hcell eT q0 q1 q2 hK' SA hrl hpl Yb hft hq Df
  obtain⟨SB,Wh⟩:∃v,v=vm:=⟨_,rfl⟩
  obtain⟨KV,Un⟩:∃m,m=mt:=⟨_,rfl⟩
  obtain⟨X,hX⟩:∃X,X=w:=⟨_,rfl⟩
  have ib:Hid (X.heap[pg]?=some (.cells #[.pointer (some ⟨gb,0,none⟩)] 155 (0,0))∧X.heap[pm]?=some (.cells #[SB] 28 (0,0))∧X.ownsRow (pm+1) 3 1 SB KV.length (nums KV).toList∧B1≤pg∧B1≤pm∧KV.Nodup∧∀x:Nat,x∈KV↔((∃f t d,ls[x]?=some (f,t,d)∧0 < d)∨x=g)):=by
   rw [Wh,Un,hX]
   exact⟨HT.out.g,HT.out.m,HT.out.own,HT.out.b1,HT.out.b2,HT.out.nd,fun x=>⟨fun h=>Or.inl ((HT.out.mem x).1 h),fun h=>h.elim (HT.out.mem x).2 (fun e=>e ▸ HGM.out)⟩⟩
  clear Wh Un
  have iP:Hid (Ms X gb rb ab ob n base B1 (.slice (some ⟨lb,0,none⟩) ls.length cap) row at' of ls):=by rw [hX];exact HM.out
  have HOW:Hid (Kt rb ab pm (.slice (some ⟨lb,0,none⟩) ls.length cap) w X):=by rw [hX];exact Kt.refl _ _ _ _ _
  go_enter Tryz.func117,Tryz.ntmps117
  go_wp2_with fail
  refine wp_at hX ?_
  rw [←hX] at z0 z1 z2 z3 z4 z5 z6 z7 z8 EN Ul
  clear hX lab lob Um
 rotate_left
 all_goals
  have Wi:Hid (∃cur,X.heap[lb]?=some (.cells cur 168 (0,0))):=(eZ iP.out.L).2.2.2
  have zX:Hid (lb≠rb∧lb≠ab):=⟨iP.out.ne.1,iP.out.ne.2.1⟩
  have SC:Hid (∀w',Only (fun b=>b=rb∨b=ab) X w'→w'.cell? ⟨pg,0,none⟩=some (.pointer (some ⟨gb,0,none⟩))∧w'.cell? ⟨gb,1,none⟩=some (.slice (some ⟨ab,0,none⟩) n n)∧w'.cell? ⟨gb,3,none⟩=some (.slice (some ⟨lb,0,none⟩) K' cap)∧w'.cell? ⟨lb,g*3,none⟩=some (.int .i64 (f:Int))∧w'.cell? ⟨lb,g*3+2,none⟩=some (.int .i64 (d:Int))):=fun w' ho=>by
   have hh:=iP.out.hi
   have kk:∀(b k:Nat) (v:Value),b≠rb→b≠ab→X.cell? ⟨b,k,none⟩=some v→w'.cell? ⟨b,k,none⟩=some v:=fun b k v n1 n2 hv=>(World.cell?_of_block (a:=⟨b,k,none⟩) (ho.block b (World.block_lt_of_cell? X _ hv) (fun hs=>hs.elim n1 n2))).trans hv
   have b1:=ib.out.2.2.2.1
   have hgr:=iP.out.G.ne iP.out.r
   have hga:=iP.out.G.ne iP.out.a
   exact⟨kk _ _ _ (by omega) (by omega) z0,kk _ _ _ hgr hga z1,kk _ _ _ hgr hga z3,kk _ _ _ zX.out.1 zX.out.2 z6,kk _ _ _ zX.out.1 zX.out.2 z7⟩
  have Z7:X.drew.cell? ⟨ab,s,none⟩=some (.int .i64 (p:Int)):=z5
  clear hsum
  refine wp_region_held_drew (S:=(fun w'=>w'.cell? ⟨pg,0,none⟩=some (.pointer (some ⟨gb,0,none⟩))∧w'.cell? ⟨gb,1,none⟩=some (.slice (some ⟨ab,0,none⟩) n n)∧w'.cell? ⟨gb,3,none⟩=some (.slice (some ⟨lb,0,none⟩) K' cap)∧w'.cell? ⟨lb,g*3,none⟩=some (.int .i64 (f:Int))∧w'.cell? ⟨lb,g*3+2,none⟩=some (.int .i64 (d:Int)))) (by kernel_rfl) (SC.out _ (Only.refl _ _).drew) (fun hHeld=>?_)
  refine fU (i:=0) (oi:=⟨some 25,_,_,_,_,_⟩) (v:=.pointer (some ⟨gb,0,none⟩)) rfl ?_
  simp only [Act.put,zA,zB,zC]
  refine fU (i:=1) (oi:=⟨some 26,_,_,_,_,_⟩) (v:=.pointer (some ⟨gb,0,none⟩)) rfl ?_
  simp only [Act.put,zA,zB,zC]
  refine fU (i:=2) (oi:=⟨some 27,_,_,_,_,_⟩) (v:=.pointer (some ⟨gb,0,none⟩)) rfl ?_
  simp only [Act.put,zA,zB,zC]
  refine fU (i:=3) (oi:=⟨some 28,_,_,_,_,_⟩) (v:=.pointer (some ⟨gb,1,none⟩)) rfl ?_
  simp only [Act.put,zA,zB,zC]
  refine fU (i:=4) (oi:=⟨some 29,_,_,_,_,_⟩) (v:=.slice (some ⟨ab,0,none⟩) n n) rfl ?_
  simp only [Act.put,zA,zB,zC]
  refine fU (i:=5) (oi:=⟨some 30,_,_,_,_,_⟩) (v:=.int .i64 (s:Int)) rfl ?_
  simp only [Act.put,zA,zB,zC]
  refine fU (i:=6) (oi:=⟨some 31,_,_,_,_,_⟩) (v:=.pointer (some ⟨ab,s,none⟩)) rfl ?_
  simp only [Act.put,zA,zB,zC]
  refine fU (i:=8) (oi:=⟨some 33,_,_,_,_,_⟩) (v:=.pointer (some ⟨gb,0,none⟩)) rfl ?_
  simp only [Act.put,zA,zB,zC]
  refine fU (i:=9) (oi:=⟨some 34,_,_,_,_,_⟩) (v:=.pointer (some ⟨gb,0,none⟩)) rfl ?_
  simp only [Act.put,zA,zB,zC]
  refine fU (i:=10) (oi:=⟨some 35,_,_,_,_,_⟩) (v:=.pointer (some ⟨gb,3,none⟩)) rfl ?_
  simp only [Act.put,zA,zB,zC]
  refine fU (i:=11) (oi:=⟨some 36,_,_,_,_,_⟩) (v:=Value.slice (some ⟨lb,0,none⟩) K' cap) rfl ?_
  simp only [Act.put,zA,zB,zC]
  refine fU (i:=12) (oi:=⟨some 37,_,_,_,_,_⟩) (v:=.int .i64 (g:Int)) rfl ?_
  simp only [Act.put,zA,zB,zC]
  refine fU (i:=13) (oi:=⟨some 38,_,_,_,_,_⟩) (v:=.pointer (some ⟨lb,g*3,none⟩)) rfl ?_
  simp only [Act.put,zA,zB,zC]
  refine fU (i:=14) (oi:=⟨some 39,_,_,_,_,_⟩) (v:=.pointer (some ⟨lb,g*3,none⟩)) rfl ?_
  simp only [Act.put,zA,zB,zC]
  refine fU (i:=15) (oi:=⟨some 40,_,_,_,_,_⟩) (v:=.int .i64 (f:Int)) rfl ?_
  simp only [Act.put,zA,zB,zC]
  refine fU (i:=16) (oi:=⟨some 41,_,_,_,_,_⟩) (v:=.pointer (some ⟨gb,0,none⟩)) rfl ?_
  simp only [Act.put,zA,zB,zC]
  refine fU (i:=17) (oi:=⟨some 42,_,_,_,_,_⟩) (v:=.pointer (some ⟨gb,0,none⟩)) rfl ?_
  simp only [Act.put,zA,zB,zC]
  refine fU (i:=18) (oi:=⟨some 43,_,_,_,_,_⟩) (v:=.pointer (some ⟨gb,3,none⟩)) rfl ?_
  simp only [Act.put,zA,zB,zC]
  refine fU (i:=19) (oi:=⟨some 44,_,_,_,_,_⟩) (v:=Value.slice (some ⟨lb,0,none⟩) K' cap) rfl ?_
  simp only [Act.put,zA,zB,zC]
  refine fU (i:=20) (oi:=⟨some 45,_,_,_,_,_⟩) (v:=.int .i64 (g:Int)) rfl ?_
  simp only [Act.put,zA,zB,zC]
  refine fU (i:=21) (oi:=⟨some 46,_,_,_,_,_⟩) (v:=.pointer (some ⟨lb,g*3,none⟩)) rfl ?_
  simp only [Act.put,zA,zB,zC]
  refine fU (i:=22) (oi:=⟨some 47,_,_,_,_,_⟩) (v:=.pointer (some ⟨lb,g*3+2,none⟩)) rfl ?_
  simp only [Act.put,zA,zB,zC]
  refine fU (i:=23) (oi:=⟨some 48,_,_,_,_,_⟩) (v:=.int .i64 (d:Int)) rfl ?_
  simp only [Act.put,zA,zB,zC]
  refine fU (i:=24) (oi:=⟨some 49,_,_,_,_,_⟩) (v:=.int .i64 (q:Int)) rfl ?_
  simp only [Act.put,zA,zB,zC]
  refine wpAnyH_ready (rs:=[7]) (by kernel_rfl) (by simp) ?_
  refine AllReadyH.cons rfl (fun K hK=>?_) AllReadyH.nil
  rw [if_pos (by rfl)]
  go_simp
  refine hK.out _ _ hHeld (fun hHeld=>?_)
  clear hK
  try simp only [Act.put,zA,zB,zC]
  refine wpAnyH_ready (rs:=[25]) (by kernel_rfl) (by simp) ?_
  refine AllReadyH.cons rfl (fun K hK=>?_) AllReadyH.nil
  rw [if_pos (by rfl)]
  go_simp
  refine Calls.mono (Ak gb rb ab ob n _ row at' p q s u _ iP.out.G iP.out.r iP.out.a iP.out.ra hpn Iy HF.out.2.2.2.2.2.1 HF.out.2.2.2.2.1 hs hun (by omega) HP.out.al) ?_
  rintro e w2 ⟨rfl,hr2,ha2,ho2⟩
  have aK:Hid (Only (fun b=>b=rb∨b=ab) X w2):=((Only.refl _ X).drew).trans ho2
  have HR2:Hid (Nb w2 rb ((row.set p u).set q s)∧Nb w2 ab ((at'.set s q).set u p)):=⟨hr2,ha2⟩
  clear hr2 ha2 ho2
  refine hK.out _ _ (SC.out _ aK.out) (fun hHeld=>?_)
  clear hK
  refine wpAnyH_done (by kernel_rfl) ?_ _
  clear hHeld z0 z1 z2 z3 z4 z5 Z7 z6 z7 z8
  obtain⟨z0,z1,z3,z6,z7⟩:=SC.out _ aK.out
  have AB:=iP.out.told aK.out HR2.out.1 HR2.out.2 HF.out.2.2.1
  have SE:Hid _:=AB
  clear AB
  have fz:∀x,w2.frozen? ⟨lb,x,none⟩=false:=fun x=>by obtain⟨cur,hc⟩:=SE.out.2.1;exact ak hc x
  have SF:gb < w2.heap.size:=Nat.lt_of_lt_of_le EN aK.out.size
  have Z8:pg < w2.heap.size:=Nat.lt_of_lt_of_le Ul aK.out.size
  have Z9:lb < w2.heap.size:=World.block_lt_of_cell? w2 _ z7
  go_wp2_with fail
  go_end0
  have ed:(.int .i64 ((d:Int)+1):Value)=.int .i64 ((d+1:Nat):Int):=by push_cast;rfl
  rw [ed]
  have hol:lb=lb:=rfl
  refine⟨rfl,_,_,_,SB,KV,SE.out.1,?_,⟨?_,?_,?_,ib.out.2.2.2.1,ib.out.2.2.2.2.1,HT.out.pp,ib.out.2.2.2.2.2.1,KU HF.out.2.2.1 ib.out.2.2.2.2.2.2⟩,by rw [List.length_set];exact HF.out.1,?_⟩
  ·have hq:=HQ.out
   have Wl:=HF.out.2.2.2.2.1
   rw [hq] at Wl ⊢
   exact HP.out.tell hs HF.out.2.1 HF.out.2.2.1 HF.out.2.2.2.1 Wl hn
  ·have hh:=iP.out.hi
   have b1:=ib.out.2.2.2.1
   refine (Below.heap_setCell _ _ _ _ ?_).trans ((aK.out.block pg (Array.getElem?_eq_some_iff.1 ib.out.1).1 (fun hs=>by omega)).trans ib.out.1)
   intro e
   obtain⟨c,hc⟩:=Wi.out
   have:=ib.out.1
   simp only at e
   rw [e,hc] at this
   injection this with this
   injection this with _ this
   cases this
  ·have hh:=iP.out.hi
   have b1:=ib.out.2.2.2.2.1
   refine (Below.heap_setCell _ _ _ _ ?_).trans ((aK.out.block pm (Array.getElem?_eq_some_iff.1 ib.out.2.1).1 (fun hs=>by omega)).trans ib.out.2.1)
   intro e
   obtain⟨c,hc⟩:=Wi.out
   have:=ib.out.2.1
   simp only at e
   rw [e,hc] at this
   injection this with this
   injection this with _ this
   cases this
  ·have hh:=iP.out.hi
   have b1:=ib.out.2.2.2.2.1
   refine pW (ai ib.out.2.2.1 aK.out (fun g hg hs=>by omega)) (fun cur' hc=>?_)
   obtain⟨cur,hcc⟩:=SE.out.2.1
   rw [hcc] at hc
   injection hc with hc
   injection hc with _ hc
   cases hc
  ·exact (HOW.out.trans (Kt.of aK.out (fun b o hb _=>hb.elim Or.inl (fun h=>Or.inr (Or.inl h))))).trans (Kt.of ((Only.refl (fun b=>b=lb) w2).setCell (p:=⟨lb,g*3+2,none⟩) rfl _) (fun b o hb _=>Or.inr (Or.inr (Or.inl (by rw [hb];rfl)))))
theorem KW (gb rb ab ob n base B1 pg pm K:Nat) (vL:Value) (row at' of:List Nat) (ls:List (Nat × Nat × Nat)) (T:Nat→Prop) (vm:Value) (mt:List Nat) (s:Nat) (w:World) (hM:Ms w gb rb ab ob n base B1 vL row at' of ls) (hP:Hm.Pt n row at' of ls T) (hT:Mt w pg pm gb B1 vm mt ls) (hs:s < n) (hn:¬ T s) (hK:ls.length=K) (Df:∀b,vL.ownBlock=some b→b < pm):
  Calls Tryz.prog 117 #[.int .i64 (s:Int),.pointer (some ⟨pg,0,none⟩),.pointer (some ⟨pm,0,none⟩)] w (Sy w gb rb ab ob n base B1 pg pm vL of K (fun x=>T x∨x=s)):=by
 obtain⟨g,f,t,d,p,h1,h2,h3,h4,h5,h6,h7,h8,h9⟩:=hP.find hs
 have hge:f+d≤p:=by
  by_cases e:p < f+d
  ·exact absurd (h9.1 e) hn
  ·omega
 have hrl:=hP.rl
 obtain⟨u,hu⟩:∃u,row[f+d]?=some u:=⟨_,List.getElem?_eq_getElem (by omega)⟩
 exact tell_do gb rb ab ob n base B1 pg pm K vL row at' of ls T vm mt s g f t d p u w hM hP hT hs hn hK h1 h2 h3 hu Df
theorem rf (w:World) (o p q:Obj):(((w.alloc o).alloc p).alloc q).drew.heap[w.heap.size+1]?=some p:=by
 have h1:=heap_alloc_new (w.alloc o) p
 rw [show (w.alloc o).heap.size=w.heap.size+1 by simp] at h1
 exact (Below.heap_alloc ((w.alloc o).alloc p) q _ (by simp)).trans h1
theorem mo (w:World) (o p q:Obj):(((w.alloc o).alloc p).alloc q).drew.heap[w.heap.size+1+1]?=some q:=by
 have h1:=heap_alloc_new ((w.alloc o).alloc p) q
 rw [show ((w.alloc o).alloc p).heap.size=w.heap.size+1+1 by simp] at h1
 exact h1
def gv (f t d:Nat):Value:=.agg #[.int .i64 (f:Int),.int .i64 (t:Int),.int .i64 (d:Int)]
theorem Wp (f t d r:Nat) (w:World) (h:t=f+r) (h1:t≤1000000):Calls Tryz.prog 132 #[.agg #[.int .i64 (f:Int),.int .i64 (t:Int),.int .i64 (d:Int)]] w fun e w'=>e=.returned (.int .i64 (r:Int))∧w'=w.alloc (.cells #[.int .i64 (f:Int),.int .i64 (t:Int),.int .i64 (d:Int)] 168):=by
 have e1:(t:Int) -(f:Int)=(r:Int):=by omega
 have hr:r≤1000000:=by omega
 clear h
 go_enter Tryz.func132,Tryz.ntmps132
 go_wp2_with fail
 go_ret
 exact⟨rfl,rfl⟩
theorem dA (f t r:Nat) (w:World) (h:t=f+r) (h1:t≤1000000):Calls Tryz.prog 132 #[.agg #[.int .i64 (f:Int),.int .i64 (t:Int),.int .i64 0]] w fun e w'=>e=.returned (.int .i64 (r:Int))∧w'=w.alloc (.cells #[.int .i64 (f:Int),.int .i64 (t:Int),.int .i64 0] 168):=by
 have e1:(t:Int) -(f:Int)=(r:Int):=by omega
 have hr:r≤1000000:=by omega
 clear h
 go_enter Tryz.func132,Tryz.ntmps132
 go_wp2_with fail
 go_ret
 exact⟨rfl,rfl⟩
theorem Ms.reads {w:World} {gb rb ab ob n base B1 lb cap i f t d:Nat} {row at' of:List Nat} {ls:List (Nat × Nat × Nat)} (h:Ms w gb rb ab ob n base B1 (.slice (some ⟨lb,0,none⟩) ls.length cap) row at' of ls) (hl:ls[i]?=some (f,t,d)):w.cell? ⟨gb,3,none⟩=some (.slice (some ⟨lb,0,none⟩) ls.length cap)∧w.cell? ⟨lb,i*3,none⟩=some (.int .i64 (f:Int))∧w.cell? ⟨lb,i*3+1,none⟩=some (.int .i64 (t:Int))∧w.cell? ⟨lb,i*3+2,none⟩=some (.int .i64 (d:Int))∧∀x,w.frozen? ⟨lb,x,none⟩=false:=by
 obtain⟨lb',cap',hv,GR,AA,hcap,m_,hcell,cur,eT⟩:=h.nl
 injection hv with hv1 hv2 hv3
 injection hv1 with hv1
 injection hv1 with hv1
 subst hv1
 obtain⟨q0,q1,q2⟩:=jF ls i f t d hl
 have hil:=(List.getElem?_eq_some_iff.1 hl).1
 exact⟨ae h.G,(hcell _ (by omega)).trans q0,(hcell _ (by omega)).trans q1,(hcell _ (by omega)).trans q2,fun x=>ak eT x⟩
end Go.Proofs.YtdlabakleldgaaaGreatDoor.L
