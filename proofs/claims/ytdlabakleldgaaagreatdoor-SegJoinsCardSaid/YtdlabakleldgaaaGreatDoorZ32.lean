/- LPb LPc LPd -/
import Derived.Test.YtdlabakleldgaaaGreatDoorZ31
import Derived.Test.YtdlabakleldgaaaGreatDoorZ00
import Derived.Deep.RegionLaw
import Derived.Deep.RegionWith
set_option linter.unusedVariables false
set_option linter.unusedSimpArgs false
set_option maxRecDepth 100000
set_option maxHeartbeats 8000000
namespace Go.Proofs.YtdlabakleldgaaaGreatDoor.L
open Go.RowKit Go.Maps
theorem Ms.put {w:World} {gb rb ab ob n base B1 lb cap i a b:Nat} {row at' of:List Nat} {ls:List (Nat × Nat × Nat)} (h:Ms w gb rb ab ob n base B1 (.slice (some ⟨lb,0,none⟩) ls.length cap) row at' of ls) (hi:i < ls.length):Ms (((w.setCell ⟨lb,i*3,none⟩ (.int .i64 (a:Int))).setCell ⟨lb,i*3+1,none⟩ (.int .i64 (b:Int))).setCell ⟨lb,i*3+2,none⟩ (.int .i64 0)) gb rb ab ob n base B1 (.slice (some ⟨lb,0,none⟩) (ls.set i (a,b,0)).length cap) row at' of (ls.set i (a,b,0)):=by
 obtain⟨n1,n2,n3,n4⟩:=h.ne
 have hL:=fP (fP (fP h.L (i*3) (by omega) (.int .i64 (a:Int))) (i*3+1) (by omega) (.int .i64 (b:Int))) (i*3+2) (by omega) (.int .i64 ((0:Nat):Int))
 rw [yC ls i a b 0 hi] at hL
 rw [List.length_set]
 refine⟨((h.G.off (fun e=>n4 e.symm) _ _).off (fun e=>n4 e.symm) _ _).off (fun e=>n4 e.symm) _ _,((h.r.off n1.symm _ _).off n1.symm _ _).off n1.symm _ _,((h.a.off n2.symm _ _).off n2.symm _ _).off n2.symm _ _,((h.o.off n3.symm _ _).off n3.symm _ _).off n3.symm _ _,?_,h.ra,h.ro,h.ao,h.lo,h.hi,by rw [List.length_set];exact h.kl,by rw [List.length_set];exact h.kn,h.n1⟩
 rw [List.length_set]
 exact hL
theorem Ms.drew {w:World} {gb rb ab ob n base B1:Nat} {vL:Value} {row at' of:List Nat} {ls:List (Nat × Nat × Nat)} (h:Ms w gb rb ab ob n base B1 vL row at' of ls):Ms w.drew gb rb ab ob n base B1 vL row at' of ls:=h.keep ((Only.refl (fun _=>False) w).drew) (fun _ h=>h.elim) (fun _ _ h=>h.elim)
theorem Ms.of' {w:World} {gb rb ab ob n base B1 s x:Nat} {vL:Value} {row at' of:List Nat} {ls:List (Nat × Nat × Nat)} (h:Ms w gb rb ab ob n base B1 vL row at' of ls):Ms (w.setCell ⟨ob,s,none⟩ (.int .i64 (x:Int))) gb rb ab ob n base B1 vL row at' (of.set s x) ls:=
 ⟨h.G.off (h.G.ne h.o) _ _,h.r.off h.ro _ _,h.a.off h.ao _ _,h.o.set s x,pW h.L (fun cur hc=>by have:=h.o;unfold Nb at this;rw [this] at hc;injection hc with hc;injection hc with _ hc;cases hc),h.ra,h.ro,h.ao,h.lo,h.hi,h.kl,h.kn,h.n1⟩
theorem gM (gb rb ab ob n c e m x:Nat) (vL:Value) (w:World) (hG:Gb w gb rb ab ob n vL) (hm:e=c+m) (he:e≤n) (hc:c < n) (hn:n≤1000000):Calls Tryz.prog 99 #[.pointer (some ⟨gb,0,none⟩),.agg #[.int .i64 (c:Int),.int .i64 (e:Int),.int .i64 0]] w fun y w'=>y=.returned (.slice (some ⟨rb,c,none⟩) m (n - c))∧Only (fun _=>False) w w':=by
 have z0:w.cell? ⟨gb,0,none⟩=some (.slice (some ⟨rb,0,none⟩) n n):=ae hG
 have EN:=hG.lt
 have h1:(c:Int)≤(e:Int):=by omega
 have h2:(e:Int)≤(n:Int):=by omega
 have h3:(e:Int) -(c:Int)=(m:Int):=by omega
 have h4:e - c=m:=by omega
 have h5:c≤e:=by omega
 have h6:¬ n=c:=by omega
 have h7:(n:Int) -(c:Int)=((n - c:Nat):Int):=by omega
 clear hG hm
 go_enter Tryz.func99,Tryz.ntmps99
 go_wp2_with fail
 go_quiet (fail)
 go_wp2_with fail
 go_ret
 exact⟨rfl,((Only.refl _ _).alloc _).drewN _⟩
theorem Hm.Pi.few {n:Nat} {row at' of:List Nat} {ls:List (Nat × Nat × Nat)} {T:Nat→Prop} (h:Hm.Pi n row at' of ls T):ls.length≤n:=by
 have hf:∀g,g < ls.length→∃s,of[s]?=some g:=fun g hg=>by
  obtain⟨x,hx⟩:∃x,ls[g]?=some x:=⟨_,List.getElem?_eq_getElem hg⟩
  obtain⟨f,t,d⟩:=x
  obtain⟨a,b,c,e⟩:=h.sO g f t d hx
  have rl:=h.rl
  obtain⟨s,hs⟩:∃s,row[f]?=some s:=⟨_,List.getElem?_eq_getElem (by omega)⟩
  exact⟨s,(e f s (Nat.le_refl _) a hs).1⟩
 have key:∀k,k≤ls.length→∃L:List Nat,L.length=k∧L.Nodup∧(∀s∈L,s < n∧∃g,g < k∧of[s]?=some g):=by
  intro k
  induction k with
  | zero=>intro _;exact⟨[],rfl,List.nodup_nil,fun s h=>by cases h⟩
  | succ k ih=>
   intro hk
   obtain⟨L,h1,h2,h3⟩:=ih (by omega)
   obtain⟨s,hs⟩:=hf k (by omega)
   have hsl:=(List.getElem?_eq_some_iff.1 hs).1
   have ol:=h.ol
   refine⟨s::L,by simp [h1],List.nodup_cons.2 ⟨fun hm=>?_,h2⟩,fun y hy=>?_⟩
   ·obtain⟨_,g,hg,hg2⟩:=h3 s hm
    rw [hs] at hg2
    injection hg2 with hg2
    omega
   ·rcases List.mem_cons.1 hy with rfl | hy
    ·exact⟨by omega,k,by omega,hs⟩
    ·obtain⟨a,g,hg,hg2⟩:=h3 y hy
     exact⟨a,g,by omega,hg2⟩
 obtain⟨L,h1,h2,h3⟩:=key ls.length (Nat.le_refl _)
 have:=q8 n L h2 (fun s hs=>(h3 s hs).1)
 omega
theorem KX:(Tryz.prog.info? 168).map (fun i=>(i.zero,i.size,i.bytes))=some (some (.agg #[.int .i64 0,.int .i64 0,.int .i64 0]),3,24):=by kernel_rfl
theorem Ms.more {w w5:World} {gb rb ab ob n base B1 lb cap c e g5 cap5 K:Nat} {row at' of:List Nat} {ls:List (Nat × Nat × Nat)} (h:Ms w gb rb ab ob n base B1 (.slice (some ⟨lb,0,none⟩) ls.length cap) row at' of ls) (hK:ls.length=K) (ho:Only (fun b=>b=lb) w w5) (hown:w5.ownsRow base 168 3 (.slice (some ⟨g5,0,none⟩) (K+1) cap5) (K+1) (jY ls++gc (c,e,0))) (hn:K+1≤n):Ms (w5.setCell ⟨gb,3,none⟩ (.slice (some ⟨g5,0,none⟩) (K+1) cap5)) gb rb ab ob n base B1 (.slice (some ⟨g5,0,none⟩) (ls++[(c,e,0)]).length cap5) row at' of (ls++[(c,e,0)]):=by
 obtain⟨n1,n2,n3,n4⟩:=h.ne
 have hl:(ls++[(c,e,0)]).length=K+1:=by simp [hK]
 have hG:=h.G.only ho (fun e=>n4 e.symm)
 have hr:=h.r.only ho (fun e=>n1 e.symm)
 have ha:=h.a.only ho (fun e=>n2 e.symm)
 have Ck:=h.o.only ho (fun e=>n3 e.symm)
 rw [hl]
 refine⟨?_,hr.off (fun e=>hG.ne hr e.symm) _ _,ha.off (fun e=>hG.ne ha e.symm) _ _,Ck.off (fun e=>hG.ne Ck e.symm) _ _,?_,h.ra,h.ro,h.ao,h.lo,h.hi,by rw [hl];omega,by rw [hl];exact hn,h.n1⟩
 ·exact aa hG _
 ·rw [hl,N9,N_]
  refine pW hown (fun cur hc=>?_)
  unfold Gb at hG
  rw [hG] at hc
  injection hc with hc
  injection hc with _ hc
  cases hc
theorem AJ {ls:List (Nat × Nat × Nat)} {i f t d a b c e:Nat} (h:ls[i]?=some (f,t,d)):∀x:Nat,(∃f t d,(ls.set i (a,b,0)++[(c,e,0)])[x]?=some (f,t,d)∧0 < d)↔(x≠i∧∃f t d,ls[x]?=some (f,t,d)∧0 < d):=fun x=>by
 have il:=(List.getElem?_eq_some_iff.1 h).1
 by_cases hx:x < ls.length
 ·rw [List.getElem?_append_left (by rw [List.length_set];exact hx),Hm.kM il]
  by_cases e2:i=x
  ·rw [if_pos e2]
   constructor
   ·rintro⟨f',t',d',h1,h2⟩
    injection h1 with h1
    simp only [Prod.mk.injEq] at h1
    omega
   ·rintro⟨h1,_⟩
    exact absurd e2.symm h1
  ·rw [if_neg e2]
   exact⟨fun h=>⟨fun e=>e2 e.symm,h⟩,fun h=>h.2⟩
 ·constructor
  ·rintro⟨f',t',d',h1,h2⟩
   rw [List.getElem?_append_right (by rw [List.length_set];omega)] at h1
   cases hk:x -(ls.set i (a,b,0)).length with
   | zero=>
    rw [hk] at h1
    simp at h1
    omega
   | succ k=>rw [hk] at h1;simp at h1
  ·rintro⟨_,f',t',d',h1,_⟩
   have:=(List.getElem?_eq_some_iff.1 h1).1
   omega
theorem yO {w:World} {gb rb ab ob n base B1 lb cap:Nat} {row at' of:List Nat} {ls:List (Nat × Nat × Nat)} (h:Ms w gb rb ab ob n base B1 (.slice (some ⟨lb,0,none⟩) ls.length cap) row at' of ls):∀b,(b=lb∨b=ob∨b=gb)→base≤b:=fun b hb=>by
 have:=(eZ h.L).1
 have:=h.lo
 omega
theorem yP {w:World} {gb rb ab ob n base B1 lb cap:Nat} {row at' of:List Nat} {ls:List (Nat × Nat × Nat)} (h:Ms w gb rb ab ob n base B1 (.slice (some ⟨lb,0,none⟩) ls.length cap) row at' of ls):∀b o,(b=lb∨b=ob∨b=gb)→B1≤b→w.heap[b]?=some o→∃cs z,o=.cells cs 168 z:=fun b o hb hB ho=>by
 have:=h.hi
 rcases hb with rfl | rfl | rfl
 ·obtain⟨cur,hc⟩:=(eZ h.L).2.2.2
  rw [hc] at ho
  injection ho with ho
  exact⟨cur,_,ho.symm⟩
 ·omega
 ·omega
theorem Di (gb rb ab ob n base B1 i f t d q K:Nat) (lb cap:Nat) (row at' of:List Nat) (ls:List (Nat × Nat × Nat)) (w:World) (hM:Ms w gb rb ab ob n base B1 (.slice (some ⟨lb,0,none⟩) ls.length cap) row at' of ls) (hl:ls[i]?=some (f,t,d)) (hd:0 < d) (hq:q=f+d) (ht:t=q+0) (htn:t≤n) (hK:K=ls.length) (T:Nat→Prop) (K0:Nat) (jf:List Nat) (hP2:Hm.P2 n K0 jf row at' of ls T):Calls Tryz.prog 119 #[.pointer (some ⟨gb,0,none⟩),.int .i64 (i:Int)] w fun e w'=>e=.returned (.tuple #[])∧∃cap',Ms w' gb rb ab ob n base B1 (.slice (some ⟨lb,0,none⟩) (ls.set i (f,t,0)).length cap') row at' of (ls.set i (f,t,0))∧Only (fun b=>b=lb) w w':=by
 have hil:=(List.getElem?_eq_some_iff.1 hl).1
 obtain⟨q0,q1,q2⟩:=jF ls i f t d hl
 obtain⟨lb',cap',hv,GR,AA,hcap,m_,hcell,cur,eT⟩:=hM.nl
 injection hv with hv1 hv2 hv3
 injection hv1 with hv1
 injection hv1 with hv1
 subst hv1
 subst hv3
 clear hv2
 have n1:=hM.n1
 have kn:=hM.kn
 rw [←hK] at hcap kn hil
 unfold maxLen at m_
 have z3:w.cell? ⟨gb,3,none⟩=some (.slice (some ⟨lb,0,none⟩) K cap):=by rw [hK];exact ae hM.G
 have z5:w.cell? ⟨lb,i*3,none⟩=some (.int .i64 (f:Int)):=(hcell _ (by omega)).trans q0
 have z6:w.cell? ⟨lb,i*3+1,none⟩=some (.int .i64 (t:Int)):=(hcell _ (by omega)).trans q1
 have z7:w.cell? ⟨lb,i*3+2,none⟩=some (.int .i64 (d:Int)):=(hcell _ (by omega)).trans q2
 have EN:=hM.G.lt
 have HM:=zH hM
 have HF:Hid (ls[i]?=some (f,t,d)∧K=ls.length∧q=f+d∧t=q+0):=⟨hl,hK,hq,ht⟩
 have EX:Hid (Hm.Pi n row at' of ls T):=hP2.pi
 have iC:=zH hP2
 have i1:(i:Int) <(K:Int):=by omega
 have s2:(f:Int)+(d:Int)=(q:Int):=by omega
 have Iy:q≤n:=by omega
 have hdn:d≤n:=by omega
 have d1:decide ((d:Int) <(0:Int))=false:=decide_eq_false (by omega)
 clear hM hl hcell eT q0 q1 q2 hK hq ht hP2
 go_enter Tryz.func119,Tryz.ntmps119
 go_wp2_with fail
 go_cut [6,7] from 22 to 29 (fun v6 v7 wr=>∃(ga sa:Nat) (W:World),W=wr∧v6=.pointer (some ⟨ga,0,none⟩)∧v7=.pointer (some ⟨sa,0,none⟩)∧W.heap[ga]?=some (.cells #[.int .i64 (f:Int),.int .i64 (q:Int),.int .i64 0] 168 (0,0))∧W.heap[sa]?=some (.cells #[.int .i64 (q:Int),.int .i64 (t:Int),.int .i64 0] 168 (0,0))∧ga≠sa∧w.heap.size≤ga∧w.heap.size≤sa∧Only (fun _=>False) w W)
 case first=>
  go_region
  all_goals
   go_wp2_with fail
   go_meet
   case rel=>first
    | exact⟨_,_,_,rfl,rfl,rfl,rf _ _ _ _,mo _ _ _ _,by omega,by omega,by omega,((((Only.refl _ _).alloc _).alloc _).alloc _).drew⟩
    | exact⟨_,_,_,rfl,rfl,rfl,mo _ _ _ _,rf _ _ _ _,by omega,by omega,by omega,((((Only.refl _ _).alloc _).alloc _).alloc _).drew⟩
 case rest=>
  obtain⟨ga,sa,W,hW,e6,e7,hga,hsa,hne,hg1,hs1,ho⟩:=hcut
  subst hW
  subst e6
  subst e7
  have IB:=zH hga
  have BO:=zH hsa
  have HOW:=zH ho
  clear hga hsa ho z3 z5 z6 z7 s2
  have AL:Hid (∀W',Only (fun _=>False) W W'→W'.cell? ⟨ga,0,none⟩=some (.int .i64 (f:Int))∧W'.cell? ⟨ga,1,none⟩=some (.int .i64 (q:Int))∧W'.cell? ⟨ga,2,none⟩=some (.int .i64 0)∧W'.cell? ⟨sa,0,none⟩=some (.int .i64 (q:Int))∧W'.cell? ⟨sa,1,none⟩=some (.int .i64 (t:Int))∧W'.cell? ⟨sa,2,none⟩=some (.int .i64 0)):=fun W' ho=>by
   have h1:=(ho.block ga (Array.getElem?_eq_some_iff.1 IB.out).1 (fun h=>h)).trans IB.out
   have h2:=(ho.block sa (Array.getElem?_eq_some_iff.1 BO.out).1 (fun h=>h)).trans BO.out
   exact⟨ae h1,ae h1,ae h1,ae h2,ae h2,ae h2⟩
  obtain⟨a0,a1,a2,b0,b1,b2⟩:=AL.out W (Only.refl _ _)
  go_wp2_with fail
  go_cut [34] from 30 to 34 (fun v wr=>∃(W':World),W'=wr∧v=.bool false∧Only (fun _=>False) W W')
  case first=>
   go_region_held3 (fun W'=>W'.cell? ⟨ga,0,none⟩=some (.int .i64 (f:Int))∧W'.cell? ⟨ga,1,none⟩=some (.int .i64 (q:Int))∧W'.cell? ⟨ga,2,none⟩=some (.int .i64 0)∧W'.cell? ⟨sa,0,none⟩=some (.int .i64 (q:Int))∧W'.cell? ⟨sa,1,none⟩=some (.int .i64 (t:Int))∧W'.cell? ⟨sa,2,none⟩=some (.int .i64 0)) (first | exact AL.out _ (Only.refl _ _).drew | exact AL.out _ (((Only.refl _ _).drew).alloc _) | exact AL.out _ ((((Only.refl _ _).drew).alloc _).alloc _)) (first |(go_at_call 132;refine Calls.mono (dA f q d _ HF.out.2.2.1 (by omega)) ?_;rintro e w9 ⟨rfl,rfl⟩) |(go_at_call 132;refine Calls.mono (dA q t 0 _ HF.out.2.2.2 (by omega)) ?_;rintro e w9 ⟨rfl,rfl⟩) | fail)
   all_goals
    go_wp2_with fail
    go_meet
    case rel=>exact⟨_,rfl,rfl,(((Only.refl _ _).drew).alloc _).alloc _⟩
  case rest=>
   obtain⟨V,hV,e34,w_⟩:=hcut
   subst hV
   subst e34
   have KY:Hid (Only (fun _=>False) w V):=HOW.out.trans w_
   have uM:=zH w_
   clear a0 a1 a2 b0 b1 b2 w_
   obtain⟨a0,a1,a2,b0,b1,b2⟩:=AL.out V uM.out
   have Dk:Hid (Ms V gb rb ab ob n base B1 (.slice (some ⟨lb,0,none⟩) ls.length cap) row at' of ls):=HM.out.keep KY.out (fun _ h=>h.elim) (fun _ _ h=>h.elim)
   obtain⟨z3,z5,z6,z7,fz⟩:=Dk.out.reads HF.out.1
   rw [←HF.out.2.1] at z3
   have Dl:=Dk.out.G.lt
   have Dm:=World.block_lt_of_cell? V _ a0
   have vV:=World.block_lt_of_cell? V _ b0
   have Dp:=World.block_lt_of_cell? V _ z5
   go_wp2_with fail
   have Qb:Hid (V.heap[sa]?=some (.cells #[.int .i64 (q:Int),.int .i64 (t:Int),.int .i64 0] 168 (0,0))):=(uM.out.block sa (Array.getElem?_eq_some_iff.1 BO.out).1 (fun h=>h)).trans BO.out
   go_region
   obtain⟨V2,hV2⟩:∃V2,V2=(((V.setCell ⟨lb,i*3,none⟩ (.int .i64 (f:Int))).setCell ⟨lb,i*3+1,none⟩ (.int .i64 (q:Int))).setCell ⟨lb,i*3+2,none⟩ (.int .i64 0)).drew:=⟨_,rfl⟩
   have Im:Hid (Ms V2 gb rb ab ob n base B1 (.slice (some ⟨lb,0,none⟩) (ls.set i (f,q,0)).length cap) row at' of (ls.set i (f,q,0))):=by rw [hV2];exact (Dk.out.put (by have:=HF.out.2.1;omega)).drew
   have aK:Hid (Only (fun b=>b=lb) V V2):=by rw [hV2];exact ((((Only.refl (fun b=>b=lb) V).setCell (p:=⟨lb,i*3,none⟩) rfl _).setCell (p:=⟨lb,i*3+1,none⟩) rfl _).setCell (p:=⟨lb,i*3+2,none⟩) rfl _).drew
   rw [←hV2]
   clear hV2
   have Dq:sa≠lb:=by omega
   have x_:Hid (V2.heap[sa]?=some (.cells #[.int .i64 (q:Int),.int .i64 (t:Int),.int .i64 0] 168 (0,0))):=(aK.out.block sa vV Dq).trans Qb.out
   have KZ:Hid (Only (fun b=>b=lb) w V2):=(KY.out.mono (fun _ h=>h.elim)).trans aK.out
   clear a0 a1 a2 b0 b1 b2 z3 z5 z6 z7 fz Dl Dm vV Dp
   have b0:V2.cell? ⟨sa,0,none⟩=some (.int .i64 (q:Int)):=ae x_.out
   have b1:V2.cell? ⟨sa,1,none⟩=some (.int .i64 (t:Int)):=ae x_.out
   have b2:V2.cell? ⟨sa,2,none⟩=some (.int .i64 0):=ae x_.out
   have v_:sa < V2.heap.size:=World.block_lt_of_cell? V2 _ b0
   go_wp2_with (first |(go_at_call 132;refine Calls.mono (dA q t 0 V2 HF.out.2.2.2 (by omega)) ?_;rintro e w9 ⟨rfl,rfl⟩))
   refine bodyPost_ret (results_none Tryz.results119 _ _ _) rfl ?_
   have eq:q=t:=by have:=HF.out.2.2.2;omega
   subst eq
   exact⟨rfl,_,Im.out.alloc _,(KZ.out.alloc _)⟩
theorem K3 (gb rb ab ob n base B1 i f t d q r K:Nat) (lb cap:Nat) (row at' of:List Nat) (ls:List (Nat × Nat × Nat)) (w:World) (hM:Ms w gb rb ab ob n base B1 (.slice (some ⟨lb,0,none⟩) ls.length cap) row at' of ls) (hl:ls[i]?=some (f,t,d)) (hd:0 < d) (hq:q=f+d) (ht:t=q+r) (htn:t≤n) (hr:0 < r) (hlt:¬ d < r) (hK:K=ls.length) (T:Nat→Prop) (K0:Nat) (jf:List Nat) (hP2:Hm.P2 n K0 jf row at' of ls T):Calls Tryz.prog 119 #[.pointer (some ⟨gb,0,none⟩),.int .i64 (i:Int)] w fun e w'=>e=.returned (.tuple #[])∧∃lb' cap' of' ls',Ms w' gb rb ab ob n base B1 (.slice (some ⟨lb',0,none⟩) ls'.length cap') row at' of' ls'∧Hm.P2 n K0 jf row at' of' ls' T∧(∀x:Nat,(∃f t d,ls'[x]?=some (f,t,d)∧0 < d)↔(x≠i∧∃f t d,ls[x]?=some (f,t,d)∧0 < d))∧Kp base B1 w w':=by
 have hil:=(List.getElem?_eq_some_iff.1 hl).1
 obtain⟨q0,q1,q2⟩:=jF ls i f t d hl
 obtain⟨lb',cap',hv,GR,AA,hcap,m_,hcell,cur,eT⟩:=hM.nl
 injection hv with hv1 hv2 hv3
 injection hv1 with hv1
 injection hv1 with hv1
 subst hv1
 subst hv3
 clear hv2
 have n1:=hM.n1
 have kn:=hM.kn
 rw [←hK] at hcap kn hil
 unfold maxLen at m_
 have z3:w.cell? ⟨gb,3,none⟩=some (.slice (some ⟨lb,0,none⟩) K cap):=by rw [hK];exact ae hM.G
 have z5:w.cell? ⟨lb,i*3,none⟩=some (.int .i64 (f:Int)):=(hcell _ (by omega)).trans q0
 have z6:w.cell? ⟨lb,i*3+1,none⟩=some (.int .i64 (t:Int)):=(hcell _ (by omega)).trans q1
 have z7:w.cell? ⟨lb,i*3+2,none⟩=some (.int .i64 (d:Int)):=(hcell _ (by omega)).trans q2
 have EN:=hM.G.lt
 have HM:=zH hM
 have HF:Hid (ls[i]?=some (f,t,d)∧K=ls.length∧q=f+d∧t=q+r):=⟨hl,hK,hq,ht⟩
 have EX:Hid (Hm.Pi n row at' of ls T):=hP2.pi
 have iC:=zH hP2
 have i1:(i:Int) <(K:Int):=by omega
 have s2:(f:Int)+(d:Int)=(q:Int):=by omega
 have Iy:q≤n:=by omega
 have hdn:d≤n:=by omega
 have hrn:r≤n:=by omega
 have d1:decide ((d:Int) <(r:Int))=false:=decide_eq_false (by omega)
 clear hM hl hcell eT q0 q1 q2 hK hq ht hP2
 go_enter Tryz.func119,Tryz.ntmps119
 go_wp2_with fail
 go_cut [6,7] from 22 to 29 (fun v6 v7 wr=>∃(ga sa:Nat) (W:World),W=wr∧v6=.pointer (some ⟨ga,0,none⟩)∧v7=.pointer (some ⟨sa,0,none⟩)∧W.heap[ga]?=some (.cells #[.int .i64 (f:Int),.int .i64 (q:Int),.int .i64 0] 168 (0,0))∧W.heap[sa]?=some (.cells #[.int .i64 (q:Int),.int .i64 (t:Int),.int .i64 0] 168 (0,0))∧ga≠sa∧w.heap.size≤ga∧w.heap.size≤sa∧Only (fun _=>False) w W)
 case first=>
  go_region
  all_goals
   go_wp2_with fail
   go_meet
   case rel=>first
    | exact⟨_,_,_,rfl,rfl,rfl,rf _ _ _ _,mo _ _ _ _,by omega,by omega,by omega,((((Only.refl _ _).alloc _).alloc _).alloc _).drew⟩
    | exact⟨_,_,_,rfl,rfl,rfl,mo _ _ _ _,rf _ _ _ _,by omega,by omega,by omega,((((Only.refl _ _).alloc _).alloc _).alloc _).drew⟩
 case rest=>
  obtain⟨ga,sa,W,hW,e6,e7,hga,hsa,hne,hg1,hs1,ho⟩:=hcut
  subst hW
  subst e6
  subst e7
  have IB:=zH hga
  have BO:=zH hsa
  have HOW:=zH ho
  clear hga hsa ho z3 z5 z6 z7 s2
  have AL:Hid (∀W',Only (fun _=>False) W W'→W'.cell? ⟨ga,0,none⟩=some (.int .i64 (f:Int))∧W'.cell? ⟨ga,1,none⟩=some (.int .i64 (q:Int))∧W'.cell? ⟨ga,2,none⟩=some (.int .i64 0)∧W'.cell? ⟨sa,0,none⟩=some (.int .i64 (q:Int))∧W'.cell? ⟨sa,1,none⟩=some (.int .i64 (t:Int))∧W'.cell? ⟨sa,2,none⟩=some (.int .i64 0)):=fun W' ho=>by
   have h1:=(ho.block ga (Array.getElem?_eq_some_iff.1 IB.out).1 (fun h=>h)).trans IB.out
   have h2:=(ho.block sa (Array.getElem?_eq_some_iff.1 BO.out).1 (fun h=>h)).trans BO.out
   exact⟨ae h1,ae h1,ae h1,ae h2,ae h2,ae h2⟩
  obtain⟨a0,a1,a2,b0,b1,b2⟩:=AL.out W (Only.refl _ _)
  go_wp2_with fail
  go_cut [34] from 30 to 34 (fun v wr=>∃(W':World),W'=wr∧v=.bool false∧Only (fun _=>False) W W')
  case first=>
   go_region_held3 (fun W'=>W'.cell? ⟨ga,0,none⟩=some (.int .i64 (f:Int))∧W'.cell? ⟨ga,1,none⟩=some (.int .i64 (q:Int))∧W'.cell? ⟨ga,2,none⟩=some (.int .i64 0)∧W'.cell? ⟨sa,0,none⟩=some (.int .i64 (q:Int))∧W'.cell? ⟨sa,1,none⟩=some (.int .i64 (t:Int))∧W'.cell? ⟨sa,2,none⟩=some (.int .i64 0)) (first | exact AL.out _ (Only.refl _ _).drew | exact AL.out _ (((Only.refl _ _).drew).alloc _) | exact AL.out _ ((((Only.refl _ _).drew).alloc _).alloc _)) (first |(go_at_call 132;refine Calls.mono (dA f q d _ HF.out.2.2.1 (by omega)) ?_;rintro e w9 ⟨rfl,rfl⟩) |(go_at_call 132;refine Calls.mono (dA q t r _ HF.out.2.2.2 (by omega)) ?_;rintro e w9 ⟨rfl,rfl⟩) | fail)
   all_goals
    go_wp2_with fail
    go_meet
    case rel=>exact⟨_,rfl,rfl,(((Only.refl _ _).drew).alloc _).alloc _⟩
  case rest=>
   obtain⟨V,hV,e34,w_⟩:=hcut
   subst hV
   subst e34
   have KY:Hid (Only (fun _=>False) w V):=HOW.out.trans w_
   have uM:=zH w_
   clear a0 a1 a2 b0 b1 b2 w_
   obtain⟨a0,a1,a2,b0,b1,b2⟩:=AL.out V uM.out
   have Dk:Hid (Ms V gb rb ab ob n base B1 (.slice (some ⟨lb,0,none⟩) ls.length cap) row at' of ls):=HM.out.keep KY.out (fun _ h=>h.elim) (fun _ _ h=>h.elim)
   obtain⟨z3,z5,z6,z7,fz⟩:=Dk.out.reads HF.out.1
   rw [←HF.out.2.1] at z3
   have Dl:=Dk.out.G.lt
   have Dm:=World.block_lt_of_cell? V _ a0
   have vV:=World.block_lt_of_cell? V _ b0
   have Dp:=World.block_lt_of_cell? V _ z5
   go_wp2_with fail
   have Qb:Hid (V.heap[sa]?=some (.cells #[.int .i64 (q:Int),.int .i64 (t:Int),.int .i64 0] 168 (0,0))):=(uM.out.block sa (Array.getElem?_eq_some_iff.1 BO.out).1 (fun h=>h)).trans BO.out
   go_region
   obtain⟨V2,hV2⟩:∃V2,V2=(((V.setCell ⟨lb,i*3,none⟩ (.int .i64 (f:Int))).setCell ⟨lb,i*3+1,none⟩ (.int .i64 (q:Int))).setCell ⟨lb,i*3+2,none⟩ (.int .i64 0)).drew:=⟨_,rfl⟩
   have Im:Hid (Ms V2 gb rb ab ob n base B1 (.slice (some ⟨lb,0,none⟩) (ls.set i (f,q,0)).length cap) row at' of (ls.set i (f,q,0))):=by rw [hV2];exact (Dk.out.put (by have:=HF.out.2.1;omega)).drew
   have aK:Hid (Only (fun b=>b=lb) V V2):=by rw [hV2];exact ((((Only.refl (fun b=>b=lb) V).setCell (p:=⟨lb,i*3,none⟩) rfl _).setCell (p:=⟨lb,i*3+1,none⟩) rfl _).setCell (p:=⟨lb,i*3+2,none⟩) rfl _).drew
   rw [←hV2]
   clear hV2
   have Dq:sa≠lb:=by omega
   have x_:Hid (V2.heap[sa]?=some (.cells #[.int .i64 (q:Int),.int .i64 (t:Int),.int .i64 0] 168 (0,0))):=(aK.out.block sa vV Dq).trans Qb.out
   have KZ:Hid (Only (fun b=>b=lb) w V2):=(KY.out.mono (fun _ h=>h.elim)).trans aK.out
   clear a0 a1 a2 b0 b1 b2 z3 z5 z6 z7 fz Dl Dm vV Dp
   have b0:V2.cell? ⟨sa,0,none⟩=some (.int .i64 (q:Int)):=ae x_.out
   have b1:V2.cell? ⟨sa,1,none⟩=some (.int .i64 (t:Int)):=ae x_.out
   have b2:V2.cell? ⟨sa,2,none⟩=some (.int .i64 0):=ae x_.out
   have v_:sa < V2.heap.size:=World.block_lt_of_cell? V2 _ b0
   have SF:=Im.out.G.lt
   have m1:¬(r:Int)=0:=by omega
   have m2:((r:Int)==0)=false:=by simpa using m1
   have hKs:(ls.set i (f,q,0)).length=K:=by rw [List.length_set];exact HF.out.2.1.symm
   have Ot:=zH hKs
   have hc1:q < n:=by have:=HF.out.2.2.1;have:=HF.out.2.2.2;omega
   clear hKs
   go_wp2_with (first |(go_at_call 132;refine Calls.mono (dA q t r V2 (HF.out.2.2.2) (by omega)) ?_;rintro e w9 ⟨rfl,rfl⟩;have c0:(V2.alloc (.cells #[.int .i64 (q:Int),.int .i64 (t:Int),.int .i64 0] 168)).cell? ⟨sa,0,none⟩=some (.int .i64 (q:Int)):=(World.cell?_alloc_lt _ _ _ v_).trans b0;have c1:(V2.alloc (.cells #[.int .i64 (q:Int),.int .i64 (t:Int),.int .i64 0] 168)).cell? ⟨sa,1,none⟩=some (.int .i64 (t:Int)):=(World.cell?_alloc_lt _ _ _ v_).trans b1;have c2:(V2.alloc (.cells #[.int .i64 (q:Int),.int .i64 (t:Int),.int .i64 0] 168)).cell? ⟨sa,2,none⟩=some (.int .i64 0):=(World.cell?_alloc_lt _ _ _ v_).trans b2) |(go_at_call 99;refine Calls.mono (gM gb rb ab ob n q t r 0 _ _ (Im.out.alloc _).G (HF.out.2.2.2) (by omega) hc1 (by omega)) ?_;rintro e wU ⟨rfl,K4⟩;have sK:Hid (Only (fun _=>False) V2 wU):=((Only.refl _ _).alloc _).trans K4;clear K4))
   obtain⟨V3,SG⟩:∃V3,V3=wU:=⟨_,rfl⟩
   rw [←SG] at sK
   rw [←SG]
   clear SG c0 c1 c2 b0 b1 b2
   have FQ:Hid (Ms V3 gb rb ab ob n base B1 (.slice (some ⟨lb,0,none⟩) (ls.set i (f,q,0)).length cap) row at' of (ls.set i (f,q,0))):=Im.out.keep sK.out (fun _ h=>h.elim) (fun _ _ h=>h.elim)
   have uy:Hid (V3.heap[sa]?=some (.cells #[.int .i64 (q:Int),.int .i64 (t:Int),.int .i64 0] 168 (0,0))):=(sK.out.block sa v_ (fun h=>h)).trans x_.out
   have SH:Hid (sa≠ob∧sa≠gb∧sa≠lb∧lb < w.heap.size∧w.heap.size≤sa):=by
    refine⟨fun e=>?_,fun e=>?_,Dq,AA,hs1⟩
    ·have:=FQ.out.o
     unfold Nb at this
     rw [←e,uy.out] at this
     injection this with this
     injection this with _ this
     cases this
    ·have:=FQ.out.G
     unfold Gb at this
     rw [←e,uy.out] at this
     injection this with this
     injection this with _ this
     cases this
   have IA:r≤n:=by omega
   have hcn:q+r≤n:=by have:=HF.out.2.2.1;have:=HF.out.2.2.2;omega
   go_loopg [51] r (fun gh v wr=>∃(x:Nat) (uN:List Nat) (Y:World),Y=wr∧gh=r - x∧x≤r∧v=.int .i64 (x:Int)∧Ms Y gb rb ab ob n base B1 (.slice (some ⟨lb,0,none⟩) (ls.set i (f,q,0)).length cap) row at' uN (ls.set i (f,q,0))∧uN.length=n∧(∀p s:Nat,row[p]?=some s→uN[s]?=if q≤p∧p < q+x then some K else of[s]?)∧Only (fun b=>b=ob) V3 Y)
   case atStart=>exact⟨0,of,_,rfl,rfl,Nat.zero_le _,rfl,FQ.out,EX.out.ol,fun p s hp=>by rw [if_neg (by omega)],Only.refl _ _⟩
   case round=>
    obtain⟨x,uN,Y,hY,rfl,hx,rfl,wh,hol,hof,zn⟩:=hrel
    subst hY
    have sP:=zH wh
    have GU:Hid (uN.length=n∧∀p s:Nat,row[p]?=some s→uN[s]?=if q≤p∧p < q+x then some K else of[s]?):=⟨hol,hof⟩
    have ES:=zH zn
    have g2:Y.cell? ⟨gb,2,none⟩=some (.slice (some ⟨ob,0,none⟩) n n):=ae wh.G
    have g3:Y.cell? ⟨gb,3,none⟩=some (.slice (some ⟨lb,0,none⟩) K cap):=by rw [←Ot.out];exact ae wh.G
    have SI:=wh.G.lt
    have aab:=wh.r.lt
    have aac:=wh.o.lt
    clear wh hol hof zn
    by_cases hlt2:x < r
    ·have t1:(x:Int) <(r:Int):=by omega
     have hrl:=EX.out.rl
     obtain⟨u,hu⟩:∃u,row[q+x]?=some u:=⟨_,List.getElem?_eq_getElem (by omega)⟩
     have HU:=zH hu
     have cu:=sP.out.r.cell hu
     have hun:u < n:=(EX.out.ra _ _ hu).1
     have iu:(u:Int) <(n:Int):=by omega
     obtain⟨y1,hy1⟩:∃y1,uN[u]?=some y1:=⟨_,List.getElem?_eq_getElem (by have:=GU.out.1;omega)⟩
     have co:=sP.out.o.cell hy1
     have fo:∀z,Y.frozen? ⟨ob,z,none⟩=false:=fun z=>sP.out.o.fz z
     clear hu hrl hy1
     go_wp2_with fail
     go_region
     all_goals
      go_wp2_with fail
      go_roundg (r -(x+1))
      case measure=>omega
      case rel=>
       refine⟨x+1,uN.set u K,_,rfl,rfl,by omega,by go_num,sP.out.of'.drew,by rw [List.length_set];exact GU.out.1,fun p s hp=>?_,((ES.out.setCell (p:=⟨ob,u,none⟩) rfl _).drew)⟩
       have SA:u < uN.length:=by have:=GU.out.1;omega
       rw [Hm.mh SA]
       by_cases e:u=s
       ·subst e
        rw [if_pos rfl]
        have h1:=(EX.out.ra p u hp).2
        have h2:=(EX.out.ra _ u HU.out).2
        rw [h1] at h2
        injection h2 with h2
        rw [if_pos (by omega)]
       ·rw [if_neg e,GU.out.2 p s hp]
        have:p≠q+x:=fun e2=>e (by rw [e2,HU.out] at hp;injection hp)
        by_cases h1:q≤p∧p < q+x
        ·rw [if_pos h1,if_pos (by omega)]
        ·rw [if_neg h1,if_neg (by omega)]
    ·have t2:decide ((x:Int) <(r:Int))=false:=decide_eq_false (by omega)
     have hxm:=Nat.le_antisymm hx (Nat.le_of_not_lt hlt2)
     subst hxm
     have SK:Hid (Y.heap[sa]?=some (.cells #[.int .i64 (q:Int),.int .i64 (t:Int),.int .i64 0] 168 (0,0))):=(ES.out.block sa (Array.getElem?_eq_some_iff.1 uy.out).1 SH.out.1).trans uy.out
     have b0:Y.cell? ⟨sa,0,none⟩=some (.int .i64 (q:Int)):=ae SK.out
     have b1:Y.cell? ⟨sa,1,none⟩=some (.int .i64 (t:Int)):=ae SK.out
     have b2:Y.cell? ⟨sa,2,none⟩=some (.int .i64 0):=ae SK.out
     have aad:=World.block_lt_of_cell? Y _ b0
     obtain⟨i6,g6,g60,g61,g62⟩:=info_parts KX
     have hown:Hid (Y.ownsRow base 168 3 (.slice (some ⟨lb,0,none⟩) K cap) K (jY (ls.set i (f,q,0)))):=by have:=sP.out.L;rw [Ot.out] at this;exact this
     have hbY:base≤Y.heap.size:=by have:=sP.out.lo.1;omega
     go_wp2_with fail
     go_region_law (refine step_append_lies _ (by rfl) _ _ _ (by rfl) base 168 i6 _ 3 24 Tryz.underlying163 g6 g60 g61 g62 rfl (by decide) (.slice (some ⟨lb,0,none⟩) K cap) K (jY (ls.set i (f,q,0))) (by rfl) (by exact hown.out.alloc _) ⟨Y.heap.size,0,none⟩ 1 1 (gc (q,t,0)) (by rfl) rfl (World.news_of_block (cs:=#[.int .i64 (q:Int),.int .i64 (t:Int),.int .i64 0]) (heap_alloc_new Y (.cells #[.int .i64 (q:Int),.int .i64 (t:Int),.int .i64 0] 168))) (fun u hu=>by simp [gc] at hu;rcases hu with rfl | rfl | rfl <;> rfl) (by decide) (by unfold maxLen;omega) (by omega) (by simp;omega) (Y.heap.size+1) (by simp) ?_;intro g5 cap5 w5 hown5 gV jT vP;have oG:Hid (Only (fun b=>b=lb) Y w5):=(((Only.refl (fun b=>b=lb) Y).alloc _).drew).grown gV (fun k hk=>by injection hk with hk;exact hk.symm);have HW5:=zH hown5;have hgl:gb≠lb:=(fun e=>sP.out.ne.2.2.2 e.symm);have G5:w5.heap[gb]?=Y.heap[gb]?:=oG.out.block gb SI hgl;have q3:w5.cell? ⟨gb,3,none⟩=some (.slice (some ⟨lb,0,none⟩) K cap):=(World.cell?_of_block (a:=⟨gb,3,none⟩) G5).trans g3;have f3:w5.frozen? ⟨gb,3,none⟩=false:=ak (G5.trans sP.out.G) 3;clear hown5 gV jT G5)
     all_goals
      go_wp2_with fail
      go_end0
      have hP3:=iC.out.parted (of':=uN) HF.out.1 hd (by have:=HF.out.2.2.1;have:=HF.out.2.2.2;omega) (Or.inl ⟨rfl,HF.out.2.2.1,HF.out.2.2.1,rfl⟩) GU.out.1 (fun p s hp=>by rw [GU.out.2 p s hp,←HF.out.2.1,show q+x=t by have:=HF.out.2.2.1;have:=HF.out.2.2.2;omega]) (a:=f) (b:=q) (c:=q) (e:=t)
      have K5:=hP3.pi.few
      rw [List.length_append,Ot.out] at K5
      have HSF:Only (fun b=>b=lb∨b=ob∨b=gb) w w5:=(((KZ.out.mono (fun b h=>Or.inl h)).trans (sK.out.mono (fun _ h=>h.elim))).trans (ES.out.mono (fun b h=>Or.inr (Or.inl h)))).trans (oG.out.mono (fun b h=>Or.inl h))
      exact⟨rfl,g5,cap5,uN,_,sP.out.more Ot.out oG.out HW5.out (by simpa using K5),hP3,AJ HF.out.1,(Kp.of (S:=fun b=>b=lb∨b=ob∨b=gb) (HSF.setCell (p:=⟨gb,3,none⟩) (Or.inr (Or.inr rfl)) _) (yO HM.out) (yP HM.out))⟩
end Go.Proofs.YtdlabakleldgaaaGreatDoor.L
