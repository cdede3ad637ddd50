/- LCb -/
import Derived.Test.YtchaoonefiamdaaGreatDoorZ30
namespace Go.Proofs.YtchaoonefiamdaaGreatDoor.L
open Go.RowKit Go.Maps
set_option linter.unusedVariables false
set_option linter.unusedSimpArgs false
theorem Kp.then {base B1:Nat} {S:Nat→Prop} {a w w':World} (h:Kp base B1 a w) (ho:Only S w w') (h1:∀ b,S b→a.heap.size≤b∨(base≤b∧(b < B1∨∃ cs z,w.heap[b]?=some (.cells cs 141 z)))):Kp base B1 a w':=by
  refine ⟨ho.os.trans h.os,ho.tape.trans h.tape,ho.output.trans h.output,Nat.le_trans h.size ho.size,fun b hb hl=>?_,fun b o hb hbo hn=>?_⟩
  · refine (ho.block b (Nat.lt_of_lt_of_le hl h.size) (fun hs=>?_)).trans (h.old b hb hl)
    rcases h1 b hs with h2 | ⟨h2,_⟩ <;> omega
  · have hw:=h.new b o hb hbo hn
    have hl:=(Array.getElem?_eq_some_iff.1 hbo).1
    refine (ho.block b (Array.getElem?_eq_some_iff.1 hw).1 (fun hs=>?_)).trans hw
    rcases h1 b hs with h2 | ⟨_,h2 | ⟨cs,z,h2⟩⟩
    · omega
    · omega
    · rw [hw] at h2
      injection h2 with h2
      exact hn cs z h2
structure Mt (w:World) (pg pm gb B1:Nat) (vm:Value) (mt:List Nat) (ls:List (Nat × Nat × Nat)):Prop where
  g:w.heap[pg]?=some (.cells #[.pointer (some ⟨gb,0,none⟩)] 128 (0,0))
  m:w.heap[pm]?=some (.cells #[vm] 23 (0,0))
  own:w.ownsRow (pm+1) 3 1 vm mt.length (nums mt).toList
  b1:B1≤pg
  b2:B1≤pm
  pp:pg < pm
  nd:mt.Nodup
  mem:∀ x:Nat,x∈mt↔∃ f t d,ls[x]?=some (f,t,d)∧0 < d
structure Kt (rb ab pm:Nat) (vL:Value) (w w':World):Prop where
  os:w'.os=w.os
  tape:w'.tape=w.tape
  output:w'.output=w.output
  size:w.heap.size≤w'.heap.size
  keep:∀ b o,w.heap[b]?=some o→b≠rb→b≠ab→vL.ownBlock≠some b→b≠pm→(b < pm∨∀ cur z,o≠.cells cur 3 z)→w'.heap[b]?=some o
theorem Kt.refl (rb ab pm:Nat) (vL:Value) (w:World):Kt rb ab pm vL w w:=⟨rfl,rfl,rfl,Nat.le_refl _,fun _ _ h _ _ _ _ _=>h⟩
theorem Kt.trans {rb ab pm:Nat} {vL:Value} {a b c:World} (h:Kt rb ab pm vL a b) (k:Kt rb ab pm vL b c):Kt rb ab pm vL a c :=
  ⟨k.os.trans h.os,k.tape.trans h.tape,k.output.trans h.output,Nat.le_trans h.size k.size,fun x o h1 h2 h3 h4 h5 h6=>k.keep x o (h.keep x o h1 h2 h3 h4 h5 h6) h2 h3 h4 h5 h6⟩
theorem Kt.of {rb ab pm:Nat} {vL:Value} {S:Nat→Prop} {w w':World} (h:Only S w w') (hS:∀ b o,S b→w.heap[b]?=some o→b=rb∨b=ab∨vL.ownBlock=some b∨b=pm∨(pm≤b∧∃ cur z,o=.cells cur 3 z)):Kt rb ab pm vL w w' :=
  ⟨h.os,h.tape,h.output,h.size,fun b o h1 h2 h3 h4 h5 h6=>(h.block b (Array.getElem?_eq_some_iff.1 h1).1 (fun hs=>by
    rcases hS b o hs h1 with e | e | e | e | ⟨e,cur,z,e2⟩
    · exact h2 e
    · exact h3 e
    · exact h4 e
    · exact h5 e
    · rcases h6 with h6 | h6
      · omega
      · exact h6 cur z e2)).trans h1⟩
theorem Kt.alloc {rb ab pm:Nat} {vL:Value} {a w:World} (h:Kt rb ab pm vL a w) (o:Obj):Kt rb ab pm vL a (w.alloc o):=h.trans (Kt.of ((Only.refl (fun _=>False) w).alloc o) (fun _ _ h=>h.elim))
def telP (w:World) (gb rb ab ob n base B1 pg pm:Nat) (vL:Value) (of:List Nat) (K:Nat) (T:Nat→Prop) (e:Ending) (w':World):Prop :=
  e=.returned (.tuple #[])∧∃ row at' ls vm mt,Ms w' gb rb ab ob n base B1 vL row at' of ls∧Hm.Pt n row at' of ls T∧Mt w' pg pm gb B1 vm mt ls∧ls.length=K∧Kt rb ab pm vL w w'
theorem mt_len:∀ (K:Nat) (mt:List Nat),mt.Nodup→(∀ x∈mt,x < K)→mt.length≤K
  | 0,mt,h,hk=>by
    cases mt with
    | nil=>simp
    | cons x l=>have:=hk x (by simp);omega
  | K+1,mt,h,hk=>by
    by_cases hm:K∈mt
    · have:=mt_len K (mt.erase K) (h.erase K) (fun x hx=>by
        have h1:=(h.mem_erase_iff.1 hx)
        have:=hk x h1.2
        omega)
      rw [List.length_erase_of_mem hm] at this
      omega
    · have:=mt_len K mt h (fun x hx=>by
        have:=hk x hx
        have:x≠K:=fun e=>hm (e ▸ hx)
        omega)
      omega
theorem info3:(Tryz.prog.info? 3).map (fun i=>(i.zero,i.size,i.bytes))=some (some (.int .i64 0),1,8):=by kernel_rfl
theorem ls_mem {ls:List (Nat × Nat × Nat)} {g f t d:Nat} (h:ls[g]?=some (f,t,d)) {mt:List Nat} (hm:∀ x:Nat,x∈mt↔((∃ f t d,ls[x]?=some (f,t,d)∧0 < d)∨x=g)):∀ x:Nat,x∈mt↔∃ f' t' d',(ls.set g (f,t,d+1))[x]?=some (f',t',d')∧0 < d':=fun x=>by
  rw [hm x,Hm.ls_set (List.getElem?_eq_some_iff.1 h).1]
  by_cases e:g=x
  · subst e
    rw [if_pos rfl]
    exact ⟨fun _=>⟨f,t,d+1,rfl,by omega⟩,fun _=>Or.inr rfl⟩
  · rw [if_neg e]
    exact ⟨fun h=>h.elim id (fun e2=>absurd e2.symm e),Or.inl⟩
theorem Ms.ne {w:World} {gb rb ab ob n base B1 lb cap:Nat} {row at' of:List Nat} {ls:List (Nat × Nat × Nat)} (h:Ms w gb rb ab ob n base B1 (.slice (some ⟨lb,0,none⟩) ls.length cap) row at' of ls):lb≠rb∧lb≠ab∧lb≠ob∧lb≠gb:=by
  obtain ⟨_,_,_,cur,hcur⟩:=own_blk h.L
  have nb:∀ {b:Nat} {l:List Nat},Nb w b l→lb≠b:=fun {b l} hb e=>by
    subst e
    unfold Nb at hb
    rw [hcur] at hb
    injection hb with hb
    injection hb with _ hb
    cases hb
  refine ⟨nb h.r,nb h.a,nb h.o,fun e=>?_⟩
  subst e
  have:=h.G
  unfold Gb at this
  rw [hcur] at this
  injection this with this
  injection this with _ this
  cases this
theorem own_at {S:Nat→Prop} {w w':World} {base e size n cap lb:Nat} {xs:List Value} (h:w.ownsRow base e size (.slice (some ⟨lb,0,none⟩) n cap) n xs) (ho:Only S w w') (hS:¬ S lb):w'.ownsRow base e size (.slice (some ⟨lb,0,none⟩) n cap) n xs:=by
  obtain ⟨hl,h | ⟨g',cap',cur,hv,h1,h2,h3⟩⟩:=h
  · exact ⟨hl,Or.inl h⟩
  · injection hv with hv1 hv2 hv3
    injection hv1 with hv1
    injection hv1 with hv1
    subst hv1
    subst hv3
    exact ⟨hl,Or.inr ⟨lb,cap,cur,rfl,h1,(ho.block lb (Array.getElem?_eq_some_iff.1 h2).1 hS).trans h2,h3⟩⟩
theorem Ms.keep2 {S:Nat→Prop} {w w':World} {gb rb ab ob n base B1 lb cap:Nat} {row at' of:List Nat} {ls:List (Nat × Nat × Nat)} (h:Ms w gb rb ab ob n base B1 (.slice (some ⟨lb,0,none⟩) ls.length cap) row at' of ls) (ho:Only S w w') (h1:∀ b,S b→B1≤b) (h2:¬ S lb):Ms w' gb rb ab ob n base B1 (.slice (some ⟨lb,0,none⟩) ls.length cap) row at' of ls :=
  ⟨h.G.only ho (fun hs=>by have:=h1 _ hs;have:=h.hi.1;omega),h.r.only ho (fun hs=>by have:=h1 _ hs;have:=h.hi.2.1;omega),h.a.only ho (fun hs=>by have:=h1 _ hs;have:=h.hi.2.2.1;omega),h.o.only ho (fun hs=>by have:=h1 _ hs;have:=h.hi.2.2.2;omega),own_at h.L ho h2,h.ra,h.ro,h.ao,h.lo,h.hi,h.kl,h.kn,h.n1⟩
theorem Ms.told {w w2:World} {gb rb ab ob n base B1 lb cap g f t d s p u q:Nat} {row at' of:List Nat} {ls:List (Nat × Nat × Nat)} (h:Ms w gb rb ab ob n base B1 (.slice (some ⟨lb,0,none⟩) ls.length cap) row at' of ls) (ho:Only (fun b=>b=rb∨b=ab) w w2) (hr:Nb w2 rb ((row.set p u).set q s)) (ha:Nb w2 ab ((at'.set s q).set u p)) (hl:ls[g]?=some (f,t,d)) :
    Ms (w2.setCell ⟨lb,g*3+2,none⟩ (.int .i64 ((d+1:Nat):Int))) gb rb ab ob n base B1 (.slice (some ⟨lb,0,none⟩) ls.length cap) ((row.set p u).set q s) ((at'.set s q).set u p) of (ls.set g (f,t,d+1))∧(∃ cur,w2.heap[lb]?=some (.cells cur 141 (0,0)))∧lb≠rb∧lb≠ab∧lb≠ob∧lb≠gb:=by
  obtain ⟨_,_,_,cur,hcur⟩:=own_blk h.L
  have nb:∀ {b:Nat} {l:List Nat},Nb w b l→lb≠b:=fun {b l} hb e=>by
    subst e
    unfold Nb at hb
    rw [hcur] at hb
    injection hb with hb
    injection hb with _ hb
    cases hb
  have ng:lb≠gb:=fun e=>by
    subst e
    have:=h.G
    unfold Gb at this
    rw [hcur] at this
    injection this with this
    injection this with _ this
    cases this
  have n1:=nb h.r
  have n2:=nb h.a
  have n3:=nb h.o
  have hgr:=h.G.ne h.r
  have hga:=h.G.ne h.a
  have hcur2:w2.heap[lb]?=some (.cells cur 141 (0,0)):=(ho.block lb (Array.getElem?_eq_some_iff.1 hcur).1 (fun hs=>hs.elim n1 n2)).trans hcur
  have hgl:=(List.getElem?_eq_some_iff.1 hl).1
  have hL2:w2.ownsRow base 141 3 (.slice (some ⟨lb,0,none⟩) ls.length cap) ls.length (gcs ls):=own_keep h.L ho (fun c cur' hs hc=>by
    rcases hs with rfl | rfl
    · have:=h.r;unfold Nb at this;rw [this] at hc;injection hc with hc;injection hc with _ hc;cases hc
    · have:=h.a;unfold Nb at this;rw [this] at hc;injection hc with hc;injection hc with _ hc;cases hc)
  have hL3:=own_set hL2 (g*3+2) (by omega) (.int .i64 ((d+1:Nat):Int))
  rw [gcs_told hl (d+1)] at hL3
  refine ⟨⟨(h.G.only ho (fun hs=>hs.elim hgr hga)).off (fun e=>ng e.symm) _ _,hr.off n1.symm _ _,ha.off n2.symm _ _,(h.o.only ho (fun hs=>hs.elim (fun e=>h.ro e.symm) (fun e=>h.ao e.symm))).off n3.symm _ _,?_,h.ra,h.ro,h.ao,h.lo,h.hi,by rw [List.length_set];exact h.kl,by rw [List.length_set];exact h.kn,h.n1⟩,⟨cur,hcur2⟩,n1,n2,n3,ng⟩
  rw [List.length_set]
  exact hL3
set_option maxRecDepth 100000 in
set_option maxHeartbeats 8000000 in
theorem tell_more (gb rb ab ob n base B1 pg pm K:Nat) (vL:Value) (row at' of:List Nat) (ls:List (Nat × Nat × Nat)) (T:Nat→Prop) (vm:Value) (mt:List Nat) (s g f t d p u:Nat) (w:World) (hM:Ms w gb rb ab ob n base B1 vL row at' of ls) (hP:Hm.Pt n row at' of ls T) (hT:Mt w pg pm gb B1 vm mt ls) (hs:s < n) (hn:¬ T s) (hK:ls.length=K)
    (hg:of[s]?=some g) (hl:ls[g]?=some (f,t,d)) (hp:at'[s]?=some p) (hu:row[f+d]?=some u) (hLP:∀ b,vL.ownBlock=some b→b < pm) (hd:0 < d):Calls Tryz.prog 91 #[.int .i64 (s:Int),.pointer (some ⟨pg,0,none⟩),.pointer (some ⟨pm,0,none⟩)] w (telP w gb rb ab ob n base B1 pg pm vL of K (fun x=>T x∨x=s)):=by
  obtain ⟨lb,cap,rfl,hlb1,hlb2,hcap,hcapm,hcell,cur,hcur⟩:=hM.nl
  have hgl:=(List.getElem?_eq_some_iff.1 hl).1
  obtain ⟨q0,q1,q2⟩:=gcs_at ls g f t d hl
  have n1:=hM.n1
  have kn:=hM.kn
  have hul:=(List.getElem?_eq_some_iff.1 hu).1
  have hrl:=hP.rl
  have hrow:=hP.ar s p hp
  have hpl:=(List.getElem?_eq_some_iff.1 hrow).1
  obtain ⟨hun,hau⟩:=hP.ra _ _ hu
  have hft:f+d < n∧p < n:=by omega
  have z0:w.cell? ⟨pg,0,none⟩=some (.pointer (some ⟨gb,0,none⟩)):=cell_blk hT.g
  have z1:w.cell? ⟨gb,1,none⟩=some (.slice (some ⟨ab,0,none⟩) n n):=cell_blk hM.G
  have z2:w.cell? ⟨gb,2,none⟩=some (.slice (some ⟨ob,0,none⟩) n n):=cell_blk hM.G
  have z3:w.cell? ⟨gb,3,none⟩=some (.slice (some ⟨lb,0,none⟩) ls.length cap):=cell_blk hM.G
  have z4:w.cell? ⟨ob,s,none⟩=some (.int .i64 (g:Int)):=hM.o.cell hg
  have z5:w.cell? ⟨ab,s,none⟩=some (.int .i64 (p:Int)):=hM.a.cell hp
  have z6:w.cell? ⟨lb,g*3,none⟩=some (.int .i64 (f:Int)):=(hcell _ (by omega)).trans q0
  have z7:w.cell? ⟨lb,g*3+2,none⟩=some (.int .i64 (d:Int)):=(hcell _ (by omega)).trans q2
  have z8:w.cell? ⟨pm,0,none⟩=some vm:=cell_blk hT.m
  have lgb:=hM.G.lt
  have lab:=hM.a.lt
  have lob:=hM.o.lt
  have lpg:=(Array.getElem?_eq_some_iff.1 hT.g).1
  have lpm:=(Array.getElem?_eq_some_iff.1 hT.m).1
  have i1:(s:Int) < (n:Int):=by omega
  have i2:(g:Int) < (ls.length:Int):=by omega
  obtain ⟨K',hK'⟩:∃ K',K'=ls.length:=⟨_,rfl⟩
  rw [← hK'] at z3 i2
  have HK2:Hid (K'=ls.length):=hK'
  have HM:Hid (Ms w gb rb ab ob n base B1 (.slice (some ⟨lb,0,none⟩) ls.length cap) row at' of ls):=hM
  have HP:Hid (Hm.Pt n row at' of ls T):=hP
  have HT:Hid (Mt w pg pm gb B1 vm mt ls):=hT
  have hpn:p < n:=hft.2
  obtain ⟨q,hq⟩:∃ q,q=f+d:=⟨_,rfl⟩
  have HQ:Hid (q=f+d):=hq
  have hqn:q < n:=by omega
  have hsum:(f:Int)+(d:Int)=(q:Int):=by omega
  have hsw:IntKind.i64.wrap ((f:Int)+(d:Int))=(q:Int):=by rw [hsum];exact wrap_small _ (by omega) (by omega)
  have hfn:f+d < n:=hft.1
  have hdn:d < n:=by omega
  have hfn2:f < n:=by omega
  rw [← hq] at hu
  have HF:Hid (ls.length=K∧of[s]?=some g∧ls[g]?=some (f,t,d)∧at'[s]?=some p∧row[q]?=some u∧row[p]?=some s∧g < ls.length):=⟨hK,hg,hl,hp,hu,hrow,hgl⟩
  have HD:Hid (d=d):=rfl
  have e1:¬ (d:Int)=0:=by omega
  have e2:((d:Int) == 0)=false:=by simpa using e1
  have HGM:Hid (g∈mt):=(hT.mem g).2 ⟨f,t,d,hl,hd⟩
  clear hM hP hT hK hg hl hp hu hrow hgl hcell hcur q0 q1 q2 hK' hul hrl hpl hau hft hq hLP
  obtain ⟨vmX,hvX⟩:∃ v,v=vm:=⟨_,rfl⟩
  obtain ⟨mtX,hmX⟩:∃ m,m=mt:=⟨_,rfl⟩
  have HTW:Hid (w.heap[pg]?=some (.cells #[.pointer (some ⟨gb,0,none⟩)] 128 (0,0))∧w.heap[pm]?=some (.cells #[vmX] 23 (0,0))∧w.ownsRow (pm+1) 3 1 vmX mtX.length (nums mtX).toList∧B1≤pg∧B1≤pm∧mtX.Nodup∧∀ x:Nat,x∈mtX↔((∃ f t d,ls[x]?=some (f,t,d)∧0 < d)∨x=g)):=by
    rw [hvX,hmX]
    exact ⟨HT.out.g,HT.out.m,HT.out.own,HT.out.b1,HT.out.b2,HT.out.nd,fun x=>⟨fun h=>Or.inl ((HT.out.mem x).1 h),fun h=>h.elim (HT.out.mem x).2 (fun e=>e ▸ HGM.out)⟩⟩
  clear hvX hmX
  have HMW:Hid (Ms w gb rb ab ob n base B1 (.slice (some ⟨lb,0,none⟩) ls.length cap) row at' of ls):=HM
  have HOW:Hid (Kt rb ab pm (.slice (some ⟨lb,0,none⟩) ls.length cap) w w):=Kt.refl _ _ _ _ _
  go_enter Tryz.func91,Tryz.ntmps91
  go_wp2_with fail
  have HCU:Hid (∃ cur,w.heap[lb]?=some (.cells cur 141 (0,0))):=(own_blk HMW.out.L).2.2.2
  have HNE:Hid (lb≠rb∧lb≠ab):=⟨HMW.out.ne.1,HMW.out.ne.2.1⟩
  have HKP:Hid (∀ w',Only (fun b=>b=rb∨b=ab) w w'→w'.cell? ⟨pg,0,none⟩=some (.pointer (some ⟨gb,0,none⟩))∧w'.cell? ⟨gb,1,none⟩=some (.slice (some ⟨ab,0,none⟩) n n)∧w'.cell? ⟨gb,3,none⟩=some (.slice (some ⟨lb,0,none⟩) K' cap)∧w'.cell? ⟨lb,g*3,none⟩=some (.int .i64 (f:Int))∧w'.cell? ⟨lb,g*3+2,none⟩=some (.int .i64 (d:Int))):=fun w' ho=>by
    have hh:=HMW.out.hi
    have kk:∀ (b k:Nat) (v:Value),b≠rb→b≠ab→w.cell? ⟨b,k,none⟩=some v→w'.cell? ⟨b,k,none⟩=some v:=fun b k v n1 n2 hv=>(World.cell?_of_block (a:=⟨b,k,none⟩) (ho.block b (World.block_lt_of_cell? w _ hv) (fun hs=>hs.elim n1 n2))).trans hv
    have b1:=HTW.out.2.2.2.1
    have hgr:=HMW.out.G.ne HMW.out.r
    have hga:=HMW.out.G.ne HMW.out.a
    exact ⟨kk _ _ _ (by omega) (by omega) z0,kk _ _ _ hgr hga z1,kk _ _ _ hgr hga z3,kk _ _ _ HNE.out.1 HNE.out.2 z6,kk _ _ _ HNE.out.1 HNE.out.2 z7⟩
  have z5d:w.drew.cell? ⟨ab,s,none⟩=some (.int .i64 (p:Int)):=z5
  clear hsum
  refine wp_region_held_drew (S:=(fun w'=>w'.cell? ⟨pg,0,none⟩=some (.pointer (some ⟨gb,0,none⟩))∧w'.cell? ⟨gb,1,none⟩=some (.slice (some ⟨ab,0,none⟩) n n)∧w'.cell? ⟨gb,3,none⟩=some (.slice (some ⟨lb,0,none⟩) K' cap)∧w'.cell? ⟨lb,g*3,none⟩=some (.int .i64 (f:Int))∧w'.cell? ⟨lb,g*3+2,none⟩=some (.int .i64 (d:Int)))) (by kernel_rfl) (HKP.out _ (Only.refl _ _).drew) (fun hHeld=>?_)
  refine wpAnyH_take (i:=0) (oi:={ dst:=some 25,op:=_,type:=_,pos:=_,after:=_,guard:=_ }) (v:=.pointer (some ⟨gb,0,none⟩)) rfl (by kernel_rfl) (by kernel_rfl) (by kernel_rfl) (fun _ _ _ h=>h) (Or.inl ⟨by rfl,fun w hSw=>by (obtain ⟨y0,y1,y2,y3,y4⟩:=hSw;first | (go_simp;done) | go_simp)⟩) (by assumption) ?_
  simp only [Act.put,List.setIfInBounds_toArray,List.set_cons_zero,List.set_cons_succ]
  refine wpAnyH_take (i:=1) (oi:={ dst:=some 26,op:=_,type:=_,pos:=_,after:=_,guard:=_ }) (v:=.pointer (some ⟨gb,0,none⟩)) rfl (by kernel_rfl) (by kernel_rfl) (by kernel_rfl) (fun _ _ _ h=>h) (Or.inl ⟨by rfl,fun w hSw=>by (obtain ⟨y0,y1,y2,y3,y4⟩:=hSw;first | (go_simp;done) | go_simp)⟩) (by assumption) ?_
  simp only [Act.put,List.setIfInBounds_toArray,List.set_cons_zero,List.set_cons_succ]
  refine wpAnyH_take (i:=2) (oi:={ dst:=some 27,op:=_,type:=_,pos:=_,after:=_,guard:=_ }) (v:=.pointer (some ⟨gb,0,none⟩)) rfl (by kernel_rfl) (by kernel_rfl) (by kernel_rfl) (fun _ _ _ h=>h) (Or.inl ⟨by rfl,fun w hSw=>by (obtain ⟨y0,y1,y2,y3,y4⟩:=hSw;first | (go_simp;done) | go_simp)⟩) (by assumption) ?_
  simp only [Act.put,List.setIfInBounds_toArray,List.set_cons_zero,List.set_cons_succ]
  refine wpAnyH_take (i:=3) (oi:={ dst:=some 28,op:=_,type:=_,pos:=_,after:=_,guard:=_ }) (v:=.pointer (some ⟨gb,1,none⟩)) rfl (by kernel_rfl) (by kernel_rfl) (by kernel_rfl) (fun _ _ _ h=>h) (Or.inl ⟨by rfl,fun w hSw=>by (obtain ⟨y0,y1,y2,y3,y4⟩:=hSw;first | (go_simp;done) | go_simp)⟩) (by assumption) ?_
  simp only [Act.put,List.setIfInBounds_toArray,List.set_cons_zero,List.set_cons_succ]
  refine wpAnyH_take (i:=4) (oi:={ dst:=some 29,op:=_,type:=_,pos:=_,after:=_,guard:=_ }) (v:=.slice (some ⟨ab,0,none⟩) n n) rfl (by kernel_rfl) (by kernel_rfl) (by kernel_rfl) (fun _ _ _ h=>h) (Or.inl ⟨by rfl,fun w hSw=>by (obtain ⟨y0,y1,y2,y3,y4⟩:=hSw;first | (go_simp;done) | go_simp)⟩) (by assumption) ?_
  simp only [Act.put,List.setIfInBounds_toArray,List.set_cons_zero,List.set_cons_succ]
  refine wpAnyH_take (i:=5) (oi:={ dst:=some 30,op:=_,type:=_,pos:=_,after:=_,guard:=_ }) (v:=.int .i64 (s:Int)) rfl (by kernel_rfl) (by kernel_rfl) (by kernel_rfl) (fun _ _ _ h=>h) (Or.inl ⟨by rfl,fun w hSw=>by (obtain ⟨y0,y1,y2,y3,y4⟩:=hSw;first | (go_simp;done) | go_simp)⟩) (by assumption) ?_
  simp only [Act.put,List.setIfInBounds_toArray,List.set_cons_zero,List.set_cons_succ]
  refine wpAnyH_take (i:=6) (oi:={ dst:=some 31,op:=_,type:=_,pos:=_,after:=_,guard:=_ }) (v:=.pointer (some ⟨ab,s,none⟩)) rfl (by kernel_rfl) (by kernel_rfl) (by kernel_rfl) (fun _ _ _ h=>h) (Or.inl ⟨by rfl,fun w hSw=>by (obtain ⟨y0,y1,y2,y3,y4⟩:=hSw;first | (go_simp;done) | go_simp)⟩) (by assumption) ?_
  simp only [Act.put,List.setIfInBounds_toArray,List.set_cons_zero,List.set_cons_succ]
  refine wpAnyH_take (i:=8) (oi:={ dst:=some 33,op:=_,type:=_,pos:=_,after:=_,guard:=_ }) (v:=.pointer (some ⟨gb,0,none⟩)) rfl (by kernel_rfl) (by kernel_rfl) (by kernel_rfl) (fun _ _ _ h=>h) (Or.inl ⟨by rfl,fun w hSw=>by (obtain ⟨y0,y1,y2,y3,y4⟩:=hSw;first | (go_simp;done) | go_simp)⟩) (by assumption) ?_
  simp only [Act.put,List.setIfInBounds_toArray,List.set_cons_zero,List.set_cons_succ]
  refine wpAnyH_take (i:=9) (oi:={ dst:=some 34,op:=_,type:=_,pos:=_,after:=_,guard:=_ }) (v:=.pointer (some ⟨gb,0,none⟩)) rfl (by kernel_rfl) (by kernel_rfl) (by kernel_rfl) (fun _ _ _ h=>h) (Or.inl ⟨by rfl,fun w hSw=>by (obtain ⟨y0,y1,y2,y3,y4⟩:=hSw;first | (go_simp;done) | go_simp)⟩) (by assumption) ?_
  simp only [Act.put,List.setIfInBounds_toArray,List.set_cons_zero,List.set_cons_succ]
  refine wpAnyH_take (i:=10) (oi:={ dst:=some 35,op:=_,type:=_,pos:=_,after:=_,guard:=_ }) (v:=.pointer (some ⟨gb,3,none⟩)) rfl (by kernel_rfl) (by kernel_rfl) (by kernel_rfl) (fun _ _ _ h=>h) (Or.inl ⟨by rfl,fun w hSw=>by (obtain ⟨y0,y1,y2,y3,y4⟩:=hSw;first | (go_simp;done) | go_simp)⟩) (by assumption) ?_
  simp only [Act.put,List.setIfInBounds_toArray,List.set_cons_zero,List.set_cons_succ]
  refine wpAnyH_take (i:=11) (oi:={ dst:=some 36,op:=_,type:=_,pos:=_,after:=_,guard:=_ }) (v:=Value.slice (some ⟨lb,0,none⟩) K' cap) rfl (by kernel_rfl) (by kernel_rfl) (by kernel_rfl) (fun _ _ _ h=>h) (Or.inl ⟨by rfl,fun w hSw=>by (obtain ⟨y0,y1,y2,y3,y4⟩:=hSw;first | (go_simp;done) | go_simp)⟩) (by assumption) ?_
  simp only [Act.put,List.setIfInBounds_toArray,List.set_cons_zero,List.set_cons_succ]
  refine wpAnyH_take (i:=12) (oi:={ dst:=some 37,op:=_,type:=_,pos:=_,after:=_,guard:=_ }) (v:=.int .i64 (g:Int)) rfl (by kernel_rfl) (by kernel_rfl) (by kernel_rfl) (fun _ _ _ h=>h) (Or.inl ⟨by rfl,fun w hSw=>by (obtain ⟨y0,y1,y2,y3,y4⟩:=hSw;first | (go_simp;done) | go_simp)⟩) (by assumption) ?_
  simp only [Act.put,List.setIfInBounds_toArray,List.set_cons_zero,List.set_cons_succ]
  refine wpAnyH_take (i:=13) (oi:={ dst:=some 38,op:=_,type:=_,pos:=_,after:=_,guard:=_ }) (v:=.pointer (some ⟨lb,g*3,none⟩)) rfl (by kernel_rfl) (by kernel_rfl) (by kernel_rfl) (fun _ _ _ h=>h) (Or.inl ⟨by rfl,fun w hSw=>by (obtain ⟨y0,y1,y2,y3,y4⟩:=hSw;first | (go_simp;done) | go_simp)⟩) (by assumption) ?_
  simp only [Act.put,List.setIfInBounds_toArray,List.set_cons_zero,List.set_cons_succ]
  refine wpAnyH_take (i:=14) (oi:={ dst:=some 39,op:=_,type:=_,pos:=_,after:=_,guard:=_ }) (v:=.pointer (some ⟨lb,g*3,none⟩)) rfl (by kernel_rfl) (by kernel_rfl) (by kernel_rfl) (fun _ _ _ h=>h) (Or.inl ⟨by rfl,fun w hSw=>by (obtain ⟨y0,y1,y2,y3,y4⟩:=hSw;first | (go_simp;done) | go_simp)⟩) (by assumption) ?_
  simp only [Act.put,List.setIfInBounds_toArray,List.set_cons_zero,List.set_cons_succ]
  refine wpAnyH_take (i:=15) (oi:={ dst:=some 40,op:=_,type:=_,pos:=_,after:=_,guard:=_ }) (v:=.int .i64 (f:Int)) rfl (by kernel_rfl) (by kernel_rfl) (by kernel_rfl) (fun _ _ _ h=>h) (Or.inl ⟨by rfl,fun w hSw=>by (obtain ⟨y0,y1,y2,y3,y4⟩:=hSw;first | (go_simp;done) | go_simp)⟩) (by assumption) ?_
  simp only [Act.put,List.setIfInBounds_toArray,List.set_cons_zero,List.set_cons_succ]
  refine wpAnyH_take (i:=16) (oi:={ dst:=some 41,op:=_,type:=_,pos:=_,after:=_,guard:=_ }) (v:=.pointer (some ⟨gb,0,none⟩)) rfl (by kernel_rfl) (by kernel_rfl) (by kernel_rfl) (fun _ _ _ h=>h) (Or.inl ⟨by rfl,fun w hSw=>by (obtain ⟨y0,y1,y2,y3,y4⟩:=hSw;first | (go_simp;done) | go_simp)⟩) (by assumption) ?_
  simp only [Act.put,List.setIfInBounds_toArray,List.set_cons_zero,List.set_cons_succ]
  refine wpAnyH_take (i:=17) (oi:={ dst:=some 42,op:=_,type:=_,pos:=_,after:=_,guard:=_ }) (v:=.pointer (some ⟨gb,0,none⟩)) rfl (by kernel_rfl) (by kernel_rfl) (by kernel_rfl) (fun _ _ _ h=>h) (Or.inl ⟨by rfl,fun w hSw=>by (obtain ⟨y0,y1,y2,y3,y4⟩:=hSw;first | (go_simp;done) | go_simp)⟩) (by assumption) ?_
  simp only [Act.put,List.setIfInBounds_toArray,List.set_cons_zero,List.set_cons_succ]
  refine wpAnyH_take (i:=18) (oi:={ dst:=some 43,op:=_,type:=_,pos:=_,after:=_,guard:=_ }) (v:=.pointer (some ⟨gb,3,none⟩)) rfl (by kernel_rfl) (by kernel_rfl) (by kernel_rfl) (fun _ _ _ h=>h) (Or.inl ⟨by rfl,fun w hSw=>by (obtain ⟨y0,y1,y2,y3,y4⟩:=hSw;first | (go_simp;done) | go_simp)⟩) (by assumption) ?_
  simp only [Act.put,List.setIfInBounds_toArray,List.set_cons_zero,List.set_cons_succ]
  refine wpAnyH_take (i:=19) (oi:={ dst:=some 44,op:=_,type:=_,pos:=_,after:=_,guard:=_ }) (v:=Value.slice (some ⟨lb,0,none⟩) K' cap) rfl (by kernel_rfl) (by kernel_rfl) (by kernel_rfl) (fun _ _ _ h=>h) (Or.inl ⟨by rfl,fun w hSw=>by (obtain ⟨y0,y1,y2,y3,y4⟩:=hSw;first | (go_simp;done) | go_simp)⟩) (by assumption) ?_
  simp only [Act.put,List.setIfInBounds_toArray,List.set_cons_zero,List.set_cons_succ]
  refine wpAnyH_take (i:=20) (oi:={ dst:=some 45,op:=_,type:=_,pos:=_,after:=_,guard:=_ }) (v:=.int .i64 (g:Int)) rfl (by kernel_rfl) (by kernel_rfl) (by kernel_rfl) (fun _ _ _ h=>h) (Or.inl ⟨by rfl,fun w hSw=>by (obtain ⟨y0,y1,y2,y3,y4⟩:=hSw;first | (go_simp;done) | go_simp)⟩) (by assumption) ?_
  simp only [Act.put,List.setIfInBounds_toArray,List.set_cons_zero,List.set_cons_succ]
  refine wpAnyH_take (i:=21) (oi:={ dst:=some 46,op:=_,type:=_,pos:=_,after:=_,guard:=_ }) (v:=.pointer (some ⟨lb,g*3,none⟩)) rfl (by kernel_rfl) (by kernel_rfl) (by kernel_rfl) (fun _ _ _ h=>h) (Or.inl ⟨by rfl,fun w hSw=>by (obtain ⟨y0,y1,y2,y3,y4⟩:=hSw;first | (go_simp;done) | go_simp)⟩) (by assumption) ?_
  simp only [Act.put,List.setIfInBounds_toArray,List.set_cons_zero,List.set_cons_succ]
  refine wpAnyH_take (i:=22) (oi:={ dst:=some 47,op:=_,type:=_,pos:=_,after:=_,guard:=_ }) (v:=.pointer (some ⟨lb,g*3+2,none⟩)) rfl (by kernel_rfl) (by kernel_rfl) (by kernel_rfl) (fun _ _ _ h=>h) (Or.inl ⟨by rfl,fun w hSw=>by (obtain ⟨y0,y1,y2,y3,y4⟩:=hSw;first | (go_simp;done) | go_simp)⟩) (by assumption) ?_
  simp only [Act.put,List.setIfInBounds_toArray,List.set_cons_zero,List.set_cons_succ]
  refine wpAnyH_take (i:=23) (oi:={ dst:=some 48,op:=_,type:=_,pos:=_,after:=_,guard:=_ }) (v:=.int .i64 (d:Int)) rfl (by kernel_rfl) (by kernel_rfl) (by kernel_rfl) (fun _ _ _ h=>h) (Or.inl ⟨by rfl,fun w hSw=>by (obtain ⟨y0,y1,y2,y3,y4⟩:=hSw;first | (go_simp;done) | go_simp)⟩) (by assumption) ?_
  simp only [Act.put,List.setIfInBounds_toArray,List.set_cons_zero,List.set_cons_succ]
  refine wpAnyH_take (i:=24) (oi:={ dst:=some 49,op:=_,type:=_,pos:=_,after:=_,guard:=_ }) (v:=.int .i64 (q:Int)) rfl (by kernel_rfl) (by kernel_rfl) (by kernel_rfl) (fun _ _ _ h=>h) (Or.inl ⟨by rfl,fun w hSw=>by (obtain ⟨y0,y1,y2,y3,y4⟩:=hSw;first | (go_simp;done) | go_simp)⟩) (by assumption) ?_
  simp only [Act.put,List.setIfInBounds_toArray,List.set_cons_zero,List.set_cons_succ]
  refine wpAnyH_ready (rs:=[7]) (by kernel_rfl) (by simp) ?_
  refine AllReadyH.cons rfl (fun K hK=>?_) AllReadyH.nil
  rw [if_pos (by rfl)]
  go_simp
  refine hK.out _ _ hHeld (fun hHeld=>?_)
  clear hK
  try simp only [Act.put,List.setIfInBounds_toArray,List.set_cons_zero,List.set_cons_succ]
  refine wpAnyH_ready (rs:=[25]) (by kernel_rfl) (by simp) ?_
  refine AllReadyH.cons rfl (fun K hK=>?_) AllReadyH.nil
  rw [if_pos (by rfl)]
  go_simp
  refine Calls.mono (swap_any gb rb ab ob n _ row at' p q s u _ HMW.out.G HMW.out.r HMW.out.a HMW.out.ra hpn hqn HF.out.2.2.2.2.2.1 HF.out.2.2.2.2.1 hs hun (by omega) HP.out.al) ?_
  rintro e w2 ⟨rfl,hr2,ha2,ho2⟩
  have HO2:Hid (Only (fun b=>b=rb∨b=ab) w w2):=((Only.refl _ w).drew).trans ho2
  have HR2:Hid (Nb w2 rb ((row.set p u).set q s)∧Nb w2 ab ((at'.set s q).set u p)):=⟨hr2,ha2⟩
  clear hr2 ha2 ho2
  refine hK.out _ _ (HKP.out _ HO2.out) (fun hHeld=>?_)
  clear hK
  refine wpAnyH_done (by kernel_rfl) ?_ _
  clear hHeld z0 z1 z2 z3 z4 z5 z5d z6 z7 z8
  obtain ⟨z0,z1,z3,z6,z7⟩:=HKP.out _ HO2.out
  have HTOLD:=HMW.out.told HO2.out HR2.out.1 HR2.out.2 HF.out.2.2.1
  have HTO:Hid _:=HTOLD
  clear HTOLD
  have fz:∀ x,w2.frozen? ⟨lb,x,none⟩=false:=fun x=>by obtain ⟨cur,hc⟩:=HTO.out.2.1;exact fz_blk hc x
  have lgb2:gb < w2.heap.size:=Nat.lt_of_lt_of_le lgb HO2.out.size
  have lpg2:pg < w2.heap.size:=Nat.lt_of_lt_of_le lpg HO2.out.size
  have llb2:lb < w2.heap.size:=World.block_lt_of_cell? w2 _ z7
  go_wp2_with fail
  go_end0
  have ed:(.int .i64 ((d:Int)+1):Value)=.int .i64 ((d+1:Nat):Int):=by push_cast;rfl
  rw [ed]
  have hol:lb=lb:=rfl
  refine ⟨rfl,_,_,_,vmX,mtX,HTO.out.1,?_,⟨?_,?_,?_,HTW.out.2.2.2.1,HTW.out.2.2.2.2.1,HT.out.pp,HTW.out.2.2.2.2.2.1,ls_mem HF.out.2.2.1 HTW.out.2.2.2.2.2.2⟩,by rw [List.length_set];exact HF.out.1,?_⟩
  · have hq:=HQ.out
    have hru:=HF.out.2.2.2.2.1
    rw [hq] at hru ⊢
    exact HP.out.tell hs HF.out.2.1 HF.out.2.2.1 HF.out.2.2.2.1 hru hn
  · have hh:=HMW.out.hi
    have b1:=HTW.out.2.2.2.1
    refine (Below.heap_setCell _ _ _ _ ?_).trans ((HO2.out.block pg (Array.getElem?_eq_some_iff.1 HTW.out.1).1 (fun hs=>by omega)).trans HTW.out.1)
    intro e
    obtain ⟨c,hc⟩:=HCU.out
    have:=HTW.out.1
    simp only at e
    rw [e,hc] at this
    injection this with this
    injection this with _ this
    cases this
  · have hh:=HMW.out.hi
    have b1:=HTW.out.2.2.2.2.1
    refine (Below.heap_setCell _ _ _ _ ?_).trans ((HO2.out.block pm (Array.getElem?_eq_some_iff.1 HTW.out.2.1).1 (fun hs=>by omega)).trans HTW.out.2.1)
    intro e
    obtain ⟨c,hc⟩:=HCU.out
    have:=HTW.out.2.1
    simp only at e
    rw [e,hc] at this
    injection this with this
    injection this with _ this
    cases this
  · have hh:=HMW.out.hi
    have b1:=HTW.out.2.2.2.2.1
    refine own_off (own_only HTW.out.2.2.1 HO2.out (fun g hg hs=>by omega)) (fun cur' hc=>?_)
    obtain ⟨cur,hcc⟩:=HTO.out.2.1
    rw [hcc] at hc
    injection hc with hc
    injection hc with _ hc
    cases hc
  · exact (HOW.out.trans (Kt.of HO2.out (fun b o hb _=>hb.elim Or.inl (fun h=>Or.inr (Or.inl h))))).trans (Kt.of ((Only.refl (fun b=>b=lb) w2).setCell (p:=⟨lb,g*3+2,none⟩) rfl _) (fun b o hb _=>Or.inr (Or.inr (Or.inl (by rw [hb];rfl)))))
set_option maxRecDepth 100000 in
set_option maxHeartbeats 8000000 in
theorem tell_first (gb rb ab ob n base B1 pg pm K:Nat) (vL:Value) (row at' of:List Nat) (ls:List (Nat × Nat × Nat)) (T:Nat→Prop) (vm:Value) (mt:List Nat) (s g f t d p u:Nat) (w:World) (hM:Ms w gb rb ab ob n base B1 vL row at' of ls) (hP:Hm.Pt n row at' of ls T) (hT:Mt w pg pm gb B1 vm mt ls) (hs:s < n) (hn:¬ T s) (hK:ls.length=K)
    (hg:of[s]?=some g) (hl:ls[g]?=some (f,t,d)) (hp:at'[s]?=some p) (hu:row[f+d]?=some u) (hLP:∀ b,vL.ownBlock=some b→b < pm) (hd:d=0):Calls Tryz.prog 91 #[.int .i64 (s:Int),.pointer (some ⟨pg,0,none⟩),.pointer (some ⟨pm,0,none⟩)] w (telP w gb rb ab ob n base B1 pg pm vL of K (fun x=>T x∨x=s)):=by
  obtain ⟨lb,cap,rfl,hlb1,hlb2,hcap,hcapm,hcell,cur,hcur⟩:=hM.nl
  have hgl:=(List.getElem?_eq_some_iff.1 hl).1
  obtain ⟨q0,q1,q2⟩:=gcs_at ls g f t d hl
  have n1:=hM.n1
  have kn:=hM.kn
  have hul:=(List.getElem?_eq_some_iff.1 hu).1
  have hrl:=hP.rl
  have hrow:=hP.ar s p hp
  have hpl:=(List.getElem?_eq_some_iff.1 hrow).1
  obtain ⟨hun,hau⟩:=hP.ra _ _ hu
  have hft:f+d < n∧p < n:=by omega
  have z0:w.cell? ⟨pg,0,none⟩=some (.pointer (some ⟨gb,0,none⟩)):=cell_blk hT.g
  have z1:w.cell? ⟨gb,1,none⟩=some (.slice (some ⟨ab,0,none⟩) n n):=cell_blk hM.G
  have z2:w.cell? ⟨gb,2,none⟩=some (.slice (some ⟨ob,0,none⟩) n n):=cell_blk hM.G
  have z3:w.cell? ⟨gb,3,none⟩=some (.slice (some ⟨lb,0,none⟩) ls.length cap):=cell_blk hM.G
  have z4:w.cell? ⟨ob,s,none⟩=some (.int .i64 (g:Int)):=hM.o.cell hg
  have z5:w.cell? ⟨ab,s,none⟩=some (.int .i64 (p:Int)):=hM.a.cell hp
  have z6:w.cell? ⟨lb,g*3,none⟩=some (.int .i64 (f:Int)):=(hcell _ (by omega)).trans q0
  have z7:w.cell? ⟨lb,g*3+2,none⟩=some (.int .i64 (d:Int)):=(hcell _ (by omega)).trans q2
  have z8:w.cell? ⟨pm,0,none⟩=some vm:=cell_blk hT.m
  have lgb:=hM.G.lt
  have lab:=hM.a.lt
  have lob:=hM.o.lt
  have lpg:=(Array.getElem?_eq_some_iff.1 hT.g).1
  have lpm:=(Array.getElem?_eq_some_iff.1 hT.m).1
  have i1:(s:Int) < (n:Int):=by omega
  have i2:(g:Int) < (ls.length:Int):=by omega
  obtain ⟨K',hK'⟩:∃ K',K'=ls.length:=⟨_,rfl⟩
  rw [← hK'] at z3 i2
  have HK2:Hid (K'=ls.length):=hK'
  have HM:Hid (Ms w gb rb ab ob n base B1 (.slice (some ⟨lb,0,none⟩) ls.length cap) row at' of ls):=hM
  have HP:Hid (Hm.Pt n row at' of ls T):=hP
  have HT:Hid (Mt w pg pm gb B1 vm mt ls):=hT
  have hpn:p < n:=hft.2
  obtain ⟨q,hq⟩:∃ q,q=f+d:=⟨_,rfl⟩
  have HQ:Hid (q=f+d):=hq
  have hqn:q < n:=by omega
  have hsum:(f:Int)+(d:Int)=(q:Int):=by omega
  have hsw:IntKind.i64.wrap ((f:Int)+(d:Int))=(q:Int):=by rw [hsum];exact wrap_small _ (by omega) (by omega)
  have hfn:f+d < n:=hft.1
  have hdn:d < n:=by omega
  have hfn2:f < n:=by omega
  rw [← hq] at hu
  have HF:Hid (ls.length=K∧of[s]?=some g∧ls[g]?=some (f,t,d)∧at'[s]?=some p∧row[q]?=some u∧row[p]?=some s∧g < ls.length):=⟨hK,hg,hl,hp,hu,hrow,hgl⟩
  have HD:Hid (d=d):=rfl
  have HNG:Hid (g ∉ mt):=fun h=>by
    obtain ⟨f',t',d',h1,h2⟩:=(hT.mem g).1 h
    rw [hl] at h1
    injection h1 with h1
    simp only [Prod.mk.injEq] at h1
    omega
  have hlen:mt.length≤n:=by
    have:=mt_len ls.length mt hT.nd (fun x hx=>by obtain ⟨f',t',d',h1,_⟩:=(hT.mem x).1 hx;exact (List.getElem?_eq_some_iff.1 h1).1)
    omega
  have hpp:=hT.pp
  have hlp2:lb < pm:=hLP lb rfl
  have hd0:d=0:=hd
  have e1:((d:Int) == 0)=true:=by rw [hd0];rfl
  obtain ⟨i3,g3,g30,g31,g32⟩:=info_parts info3
  obtain ⟨am,cm,rfl⟩:=own_form hT.own
  obtain ⟨ml,hml⟩:∃ ml,ml=mt.length:=⟨_,rfl⟩
  have HML:Hid (ml=mt.length):=hml
  rw [← hml] at z8 hlen
  have HOWN:Hid ((w.alloc (.cells #[.int .i64 (g:Int)] 3)).ownsRow (pm+1) 3 1 (.slice am ml cm) ml (nums mt).toList):=by rw [hml];exact hT.own.alloc _
  have HFZ:Hid (w.frozen? ⟨pm,0,none⟩=false):=fz_blk hT.m 0
  have HTM:Hid (w.heap[pm]?=some (.cells #[.slice am ml cm] 23 (0,0))):=by rw [hml];exact hT.m
  clear hM hP hT hK hg hl hp hu hrow hgl hcell hcur q0 q1 q2 hK' hul hrl hpl hau hft hq hml hd hd0 hLP
  go_enter Tryz.func91,Tryz.ntmps91
  go_wp2_with (first | (at_builtin;refine wpList_append_own_at _ rfl _ _ 23 rfl (pm+1) 3 i3 (.int .i64 0) 1 8 Tryz.underlying23 g3 g30 g31 g32 rfl (by decide) (.slice am ml cm) ml (nums mt).toList rfl HOWN.out ⟨w.heap.size,0,none⟩ 1 1 [.int .i64 (g:Int)] rfl rfl (news1 w _ _) (fun u hu=>by simp at hu;subst hu;rfl) (by unfold maxLen;omega) (by omega) (by simp;omega) ?_;intro v3 w3 ho3 hg3 _ hat3;obtain ⟨a3,c3,rfl⟩:=own_form ho3;have HO3:Hid (w3.ownsRow (pm+1) 3 1 (.slice a3 (ml+1) c3) (ml+1) ((nums mt).toList++[.int .i64 (g:Int)])):=ho3;have HK3:Hid (Only (fun b=>pm < b) w w3):=(by
      have hb:∀ k,(Value.slice am ml cm).ownBlock=some k→pm < k:=fun k hk=>(by
        obtain ⟨_,⟨hv,_⟩ | ⟨g',cap',cur',hv,h1,_⟩⟩:=HOWN.out
        · rw [hv] at hk;cases hk
        · rw [hv] at hk;injection hk with hk;subst hk;exact h1)
      exact ((Only.refl (fun b=>pm < b) w).alloc _).grown hg3 hb);have HK4:Hid (Only (fun b=>(Value.slice am ml cm).ownBlock=some b) w w3):=((Only.refl _ w).alloc _).grown hg3 (fun k hk=>hk);have c8:w3.cell? ⟨pm,0,none⟩=some (.slice am ml cm):=(World.cell?_of_block (a:=⟨pm,0,none⟩) (HK3.out.block pm lpm (fun h=>by omega))).trans z8;have f8:w3.frozen? ⟨pm,0,none⟩=false:=fz_blk ((HK3.out.block pm lpm (fun h=>by omega)).trans HTM.out) 0;have l8:pm < w3.heap.size:=Nat.lt_of_lt_of_le lpm HK3.out.size;clear ho3 hg3 hat3))
  obtain ⟨X,hX⟩:∃ X,X=w3.setCell ⟨pm,0,none⟩ (.slice a3 (ml+1) c3):=⟨_,rfl⟩
  have HXO:Hid (Only (fun b=>pm≤b) w X):=by rw [hX];exact (HK3.out.mono (fun b h=>Nat.le_of_lt h)).setCell (p:=⟨pm,0,none⟩) (Nat.le_refl _) _
  have HXO2:Hid (Only (fun b=>b=pm∨(Value.slice am ml cm).ownBlock=some b) w X):=by rw [hX];exact (HK4.out.mono (S':=fun b=>b=pm∨(Value.slice am ml cm).ownBlock=some b) (fun b h=>Or.inr h)).setCell (p:=⟨pm,0,none⟩) (Or.inl rfl) _
  have HXM:Hid (X.heap[pm]?=some (.cells #[.slice a3 (ml+1) c3] 23 (0,0))):=by rw [hX];exact heap_setCell_at ((HK3.out.block pm lpm (fun h=>by omega)).trans HTM.out) _
  have HXW:Hid (X.ownsRow (pm+1) 3 1 (.slice a3 (ml+1) c3) (ml+1) ((nums mt).toList++[.int .i64 (g:Int)])):=by rw [hX];exact own_only HO3.out ((Only.refl (fun b=>b=pm) w3).setCell (p:=⟨pm,0,none⟩) rfl _) (fun g hg hs=>by omega)
  rw [← hX]
  clear hX c8 f8 l8
  have b1:=HT.out.b1
  have hh:=HM.out.hi
  have kk:∀ (b k:Nat) (v:Value),b < pm→w.cell? ⟨b,k,none⟩=some v→X.cell? ⟨b,k,none⟩=some v:=fun b k v hb hv=>(World.cell?_of_block (a:=⟨b,k,none⟩) (HXO.out.block b (World.block_lt_of_cell? w _ hv) (fun hs=>by omega))).trans hv
  have y0:=kk _ _ _ (by omega) z0
  have y1:=kk _ _ _ (by omega) z1
  have y3:=kk _ _ _ (by omega) z3
  have y5:=kk _ _ _ (by omega) z5
  have y6:=kk _ _ _ (by omega) z6
  have y7:=kk _ _ _ (by omega) z7
  have lgb':gb < X.heap.size:=Nat.lt_of_lt_of_le lgb HXO.out.size
  have lpg':pg < X.heap.size:=Nat.lt_of_lt_of_le lpg HXO.out.size
  clear z0 z1 z2 z3 z4 z5 z6 z7 z8 kk lgb lab lob lpg lpm
  have z0:=y0
  have z1:=y1
  have z2:=y1
  have z3:=y3
  have z4:=y1
  have z5:=y5
  have z6:=y6
  have z7:=y7
  have z8:=y1
  have lgb:=lgb'
  have lpg:=lpg'
  clear y0 y1 y3 y5 y6 y7 lgb' lpg'
  obtain ⟨vmX,hvX⟩:∃ v,v=Value.slice a3 (ml+1) c3:=⟨_,rfl⟩
  obtain ⟨mtX,hmX⟩:∃ m,m=mt++[g]:=⟨_,rfl⟩
  have HTW:Hid (X.heap[pg]?=some (.cells #[.pointer (some ⟨gb,0,none⟩)] 128 (0,0))∧X.heap[pm]?=some (.cells #[vmX] 23 (0,0))∧X.ownsRow (pm+1) 3 1 vmX mtX.length (nums mtX).toList∧B1≤pg∧B1≤pm∧mtX.Nodup∧∀ x:Nat,x∈mtX↔((∃ f t d,ls[x]?=some (f,t,d)∧0 < d)∨x=g)):=by
    rw [hvX,hmX]
    refine ⟨(HXO.out.block pg (Array.getElem?_eq_some_iff.1 HT.out.g).1 (fun hs=>by omega)).trans HT.out.g,HXM.out,?_,HT.out.b1,HT.out.b2,?_,fun x=>?_⟩
    · have e:(nums (mt++[g])).toList=(nums mt).toList++[.int .i64 (g:Int)]:=by simp [nums]
      rw [e,List.length_append,← HML.out]
      exact HXW.out
    · exact List.nodup_append.2 ⟨HT.out.nd,by simp,fun a ha b hb e=>by simp at hb;subst hb;subst e;exact HNG.out ha⟩
    · rw [List.mem_append,HT.out.mem x]
      simp
  clear hvX hmX
  have HMW:Hid (Ms X gb rb ab ob n base B1 (.slice (some ⟨lb,0,none⟩) ls.length cap) row at' of ls):=HM.out.keep2 (S:=fun b=>pm≤b) HXO.out (fun b hb=>by have:=HT.out.b2;omega) (by omega)
  have HOW:Hid (Kt rb ab pm (.slice (some ⟨lb,0,none⟩) ls.length cap) w X):=Kt.of HXO2.out (fun b o hb ho=>by
    rcases hb with hb | hb
    · exact Or.inr (Or.inr (Or.inr (Or.inl hb)))
    · obtain ⟨_,⟨hv,_⟩ | ⟨g',cap',cur',hv,h1,h2,_⟩⟩:=HT.out.own
      · rw [← HML.out] at hv
        rw [hv] at hb
        cases hb
      · rw [← HML.out] at hv
        rw [hv] at hb
        injection hb with hb
        subst hb
        rw [h2] at ho
        injection ho with ho
        exact Or.inr (Or.inr (Or.inr (Or.inr ⟨Nat.le_of_lt h1,cur',_,ho.symm⟩))))
  clear b1 hh
  have HCU:Hid (∃ cur,X.heap[lb]?=some (.cells cur 141 (0,0))):=(own_blk HMW.out.L).2.2.2
  have HNE:Hid (lb≠rb∧lb≠ab):=⟨HMW.out.ne.1,HMW.out.ne.2.1⟩
  have HKP:Hid (∀ w',Only (fun b=>b=rb∨b=ab) X w'→w'.cell? ⟨pg,0,none⟩=some (.pointer (some ⟨gb,0,none⟩))∧w'.cell? ⟨gb,1,none⟩=some (.slice (some ⟨ab,0,none⟩) n n)∧w'.cell? ⟨gb,3,none⟩=some (.slice (some ⟨lb,0,none⟩) K' cap)∧w'.cell? ⟨lb,g*3,none⟩=some (.int .i64 (f:Int))∧w'.cell? ⟨lb,g*3+2,none⟩=some (.int .i64 (d:Int))):=fun w' ho=>by
    have hh:=HMW.out.hi
    have kk:∀ (b k:Nat) (v:Value),b≠rb→b≠ab→X.cell? ⟨b,k,none⟩=some v→w'.cell? ⟨b,k,none⟩=some v:=fun b k v n1 n2 hv=>(World.cell?_of_block (a:=⟨b,k,none⟩) (ho.block b (World.block_lt_of_cell? X _ hv) (fun hs=>hs.elim n1 n2))).trans hv
    have b1:=HTW.out.2.2.2.1
    have hgr:=HMW.out.G.ne HMW.out.r
    have hga:=HMW.out.G.ne HMW.out.a
    exact ⟨kk _ _ _ (by omega) (by omega) z0,kk _ _ _ hgr hga z1,kk _ _ _ hgr hga z3,kk _ _ _ HNE.out.1 HNE.out.2 z6,kk _ _ _ HNE.out.1 HNE.out.2 z7⟩
  have z5d:X.drew.cell? ⟨ab,s,none⟩=some (.int .i64 (p:Int)):=z5
  clear hsum
  refine wp_region_held_drew (S:=(fun w'=>w'.cell? ⟨pg,0,none⟩=some (.pointer (some ⟨gb,0,none⟩))∧w'.cell? ⟨gb,1,none⟩=some (.slice (some ⟨ab,0,none⟩) n n)∧w'.cell? ⟨gb,3,none⟩=some (.slice (some ⟨lb,0,none⟩) K' cap)∧w'.cell? ⟨lb,g*3,none⟩=some (.int .i64 (f:Int))∧w'.cell? ⟨lb,g*3+2,none⟩=some (.int .i64 (d:Int)))) (by kernel_rfl) (HKP.out _ (Only.refl _ _).drew) (fun hHeld=>?_)
  refine wpAnyH_take (i:=0) (oi:={ dst:=some 25,op:=_,type:=_,pos:=_,after:=_,guard:=_ }) (v:=.pointer (some ⟨gb,0,none⟩)) rfl (by kernel_rfl) (by kernel_rfl) (by kernel_rfl) (fun _ _ _ h=>h) (Or.inl ⟨by rfl,fun w hSw=>by (obtain ⟨y0,y1,y2,y3,y4⟩:=hSw;first | (go_simp;done) | go_simp)⟩) (by assumption) ?_
  simp only [Act.put,List.setIfInBounds_toArray,List.set_cons_zero,List.set_cons_succ]
  refine wpAnyH_take (i:=1) (oi:={ dst:=some 26,op:=_,type:=_,pos:=_,after:=_,guard:=_ }) (v:=.pointer (some ⟨gb,0,none⟩)) rfl (by kernel_rfl) (by kernel_rfl) (by kernel_rfl) (fun _ _ _ h=>h) (Or.inl ⟨by rfl,fun w hSw=>by (obtain ⟨y0,y1,y2,y3,y4⟩:=hSw;first | (go_simp;done) | go_simp)⟩) (by assumption) ?_
  simp only [Act.put,List.setIfInBounds_toArray,List.set_cons_zero,List.set_cons_succ]
  refine wpAnyH_take (i:=2) (oi:={ dst:=some 27,op:=_,type:=_,pos:=_,after:=_,guard:=_ }) (v:=.pointer (some ⟨gb,0,none⟩)) rfl (by kernel_rfl) (by kernel_rfl) (by kernel_rfl) (fun _ _ _ h=>h) (Or.inl ⟨by rfl,fun w hSw=>by (obtain ⟨y0,y1,y2,y3,y4⟩:=hSw;first | (go_simp;done) | go_simp)⟩) (by assumption) ?_
  simp only [Act.put,List.setIfInBounds_toArray,List.set_cons_zero,List.set_cons_succ]
  refine wpAnyH_take (i:=3) (oi:={ dst:=some 28,op:=_,type:=_,pos:=_,after:=_,guard:=_ }) (v:=.pointer (some ⟨gb,1,none⟩)) rfl (by kernel_rfl) (by kernel_rfl) (by kernel_rfl) (fun _ _ _ h=>h) (Or.inl ⟨by rfl,fun w hSw=>by (obtain ⟨y0,y1,y2,y3,y4⟩:=hSw;first | (go_simp;done) | go_simp)⟩) (by assumption) ?_
  simp only [Act.put,List.setIfInBounds_toArray,List.set_cons_zero,List.set_cons_succ]
  refine wpAnyH_take (i:=4) (oi:={ dst:=some 29,op:=_,type:=_,pos:=_,after:=_,guard:=_ }) (v:=.slice (some ⟨ab,0,none⟩) n n) rfl (by kernel_rfl) (by kernel_rfl) (by kernel_rfl) (fun _ _ _ h=>h) (Or.inl ⟨by rfl,fun w hSw=>by (obtain ⟨y0,y1,y2,y3,y4⟩:=hSw;first | (go_simp;done) | go_simp)⟩) (by assumption) ?_
  simp only [Act.put,List.setIfInBounds_toArray,List.set_cons_zero,List.set_cons_succ]
  refine wpAnyH_take (i:=5) (oi:={ dst:=some 30,op:=_,type:=_,pos:=_,after:=_,guard:=_ }) (v:=.int .i64 (s:Int)) rfl (by kernel_rfl) (by kernel_rfl) (by kernel_rfl) (fun _ _ _ h=>h) (Or.inl ⟨by rfl,fun w hSw=>by (obtain ⟨y0,y1,y2,y3,y4⟩:=hSw;first | (go_simp;done) | go_simp)⟩) (by assumption) ?_
  simp only [Act.put,List.setIfInBounds_toArray,List.set_cons_zero,List.set_cons_succ]
  refine wpAnyH_take (i:=6) (oi:={ dst:=some 31,op:=_,type:=_,pos:=_,after:=_,guard:=_ }) (v:=.pointer (some ⟨ab,s,none⟩)) rfl (by kernel_rfl) (by kernel_rfl) (by kernel_rfl) (fun _ _ _ h=>h) (Or.inl ⟨by rfl,fun w hSw=>by (obtain ⟨y0,y1,y2,y3,y4⟩:=hSw;first | (go_simp;done) | go_simp)⟩) (by assumption) ?_
  simp only [Act.put,List.setIfInBounds_toArray,List.set_cons_zero,List.set_cons_succ]
  refine wpAnyH_take (i:=8) (oi:={ dst:=some 33,op:=_,type:=_,pos:=_,after:=_,guard:=_ }) (v:=.pointer (some ⟨gb,0,none⟩)) rfl (by kernel_rfl) (by kernel_rfl) (by kernel_rfl) (fun _ _ _ h=>h) (Or.inl ⟨by rfl,fun w hSw=>by (obtain ⟨y0,y1,y2,y3,y4⟩:=hSw;first | (go_simp;done) | go_simp)⟩) (by assumption) ?_
  simp only [Act.put,List.setIfInBounds_toArray,List.set_cons_zero,List.set_cons_succ]
  refine wpAnyH_take (i:=9) (oi:={ dst:=some 34,op:=_,type:=_,pos:=_,after:=_,guard:=_ }) (v:=.pointer (some ⟨gb,0,none⟩)) rfl (by kernel_rfl) (by kernel_rfl) (by kernel_rfl) (fun _ _ _ h=>h) (Or.inl ⟨by rfl,fun w hSw=>by (obtain ⟨y0,y1,y2,y3,y4⟩:=hSw;first | (go_simp;done) | go_simp)⟩) (by assumption) ?_
  simp only [Act.put,List.setIfInBounds_toArray,List.set_cons_zero,List.set_cons_succ]
  refine wpAnyH_take (i:=10) (oi:={ dst:=some 35,op:=_,type:=_,pos:=_,after:=_,guard:=_ }) (v:=.pointer (some ⟨gb,3,none⟩)) rfl (by kernel_rfl) (by kernel_rfl) (by kernel_rfl) (fun _ _ _ h=>h) (Or.inl ⟨by rfl,fun w hSw=>by (obtain ⟨y0,y1,y2,y3,y4⟩:=hSw;first | (go_simp;done) | go_simp)⟩) (by assumption) ?_
  simp only [Act.put,List.setIfInBounds_toArray,List.set_cons_zero,List.set_cons_succ]
  refine wpAnyH_take (i:=11) (oi:={ dst:=some 36,op:=_,type:=_,pos:=_,after:=_,guard:=_ }) (v:=Value.slice (some ⟨lb,0,none⟩) K' cap) rfl (by kernel_rfl) (by kernel_rfl) (by kernel_rfl) (fun _ _ _ h=>h) (Or.inl ⟨by rfl,fun w hSw=>by (obtain ⟨y0,y1,y2,y3,y4⟩:=hSw;first | (go_simp;done) | go_simp)⟩) (by assumption) ?_
  simp only [Act.put,List.setIfInBounds_toArray,List.set_cons_zero,List.set_cons_succ]
  refine wpAnyH_take (i:=12) (oi:={ dst:=some 37,op:=_,type:=_,pos:=_,after:=_,guard:=_ }) (v:=.int .i64 (g:Int)) rfl (by kernel_rfl) (by kernel_rfl) (by kernel_rfl) (fun _ _ _ h=>h) (Or.inl ⟨by rfl,fun w hSw=>by (obtain ⟨y0,y1,y2,y3,y4⟩:=hSw;first | (go_simp;done) | go_simp)⟩) (by assumption) ?_
  simp only [Act.put,List.setIfInBounds_toArray,List.set_cons_zero,List.set_cons_succ]
  refine wpAnyH_take (i:=13) (oi:={ dst:=some 38,op:=_,type:=_,pos:=_,after:=_,guard:=_ }) (v:=.pointer (some ⟨lb,g*3,none⟩)) rfl (by kernel_rfl) (by kernel_rfl) (by kernel_rfl) (fun _ _ _ h=>h) (Or.inl ⟨by rfl,fun w hSw=>by (obtain ⟨y0,y1,y2,y3,y4⟩:=hSw;first | (go_simp;done) | go_simp)⟩) (by assumption) ?_
  simp only [Act.put,List.setIfInBounds_toArray,List.set_cons_zero,List.set_cons_succ]
  refine wpAnyH_take (i:=14) (oi:={ dst:=some 39,op:=_,type:=_,pos:=_,after:=_,guard:=_ }) (v:=.pointer (some ⟨lb,g*3,none⟩)) rfl (by kernel_rfl) (by kernel_rfl) (by kernel_rfl) (fun _ _ _ h=>h) (Or.inl ⟨by rfl,fun w hSw=>by (obtain ⟨y0,y1,y2,y3,y4⟩:=hSw;first | (go_simp;done) | go_simp)⟩) (by assumption) ?_
  simp only [Act.put,List.setIfInBounds_toArray,List.set_cons_zero,List.set_cons_succ]
  refine wpAnyH_take (i:=15) (oi:={ dst:=some 40,op:=_,type:=_,pos:=_,after:=_,guard:=_ }) (v:=.int .i64 (f:Int)) rfl (by kernel_rfl) (by kernel_rfl) (by kernel_rfl) (fun _ _ _ h=>h) (Or.inl ⟨by rfl,fun w hSw=>by (obtain ⟨y0,y1,y2,y3,y4⟩:=hSw;first | (go_simp;done) | go_simp)⟩) (by assumption) ?_
  simp only [Act.put,List.setIfInBounds_toArray,List.set_cons_zero,List.set_cons_succ]
  refine wpAnyH_take (i:=16) (oi:={ dst:=some 41,op:=_,type:=_,pos:=_,after:=_,guard:=_ }) (v:=.pointer (some ⟨gb,0,none⟩)) rfl (by kernel_rfl) (by kernel_rfl) (by kernel_rfl) (fun _ _ _ h=>h) (Or.inl ⟨by rfl,fun w hSw=>by (obtain ⟨y0,y1,y2,y3,y4⟩:=hSw;first | (go_simp;done) | go_simp)⟩) (by assumption) ?_
  simp only [Act.put,List.setIfInBounds_toArray,List.set_cons_zero,List.set_cons_succ]
  refine wpAnyH_take (i:=17) (oi:={ dst:=some 42,op:=_,type:=_,pos:=_,after:=_,guard:=_ }) (v:=.pointer (some ⟨gb,0,none⟩)) rfl (by kernel_rfl) (by kernel_rfl) (by kernel_rfl) (fun _ _ _ h=>h) (Or.inl ⟨by rfl,fun w hSw=>by (obtain ⟨y0,y1,y2,y3,y4⟩:=hSw;first | (go_simp;done) | go_simp)⟩) (by assumption) ?_
  simp only [Act.put,List.setIfInBounds_toArray,List.set_cons_zero,List.set_cons_succ]
  refine wpAnyH_take (i:=18) (oi:={ dst:=some 43,op:=_,type:=_,pos:=_,after:=_,guard:=_ }) (v:=.pointer (some ⟨gb,3,none⟩)) rfl (by kernel_rfl) (by kernel_rfl) (by kernel_rfl) (fun _ _ _ h=>h) (Or.inl ⟨by rfl,fun w hSw=>by (obtain ⟨y0,y1,y2,y3,y4⟩:=hSw;first | (go_simp;done) | go_simp)⟩) (by assumption) ?_
  simp only [Act.put,List.setIfInBounds_toArray,List.set_cons_zero,List.set_cons_succ]
  refine wpAnyH_take (i:=19) (oi:={ dst:=some 44,op:=_,type:=_,pos:=_,after:=_,guard:=_ }) (v:=Value.slice (some ⟨lb,0,none⟩) K' cap) rfl (by kernel_rfl) (by kernel_rfl) (by kernel_rfl) (fun _ _ _ h=>h) (Or.inl ⟨by rfl,fun w hSw=>by (obtain ⟨y0,y1,y2,y3,y4⟩:=hSw;first | (go_simp;done) | go_simp)⟩) (by assumption) ?_
  simp only [Act.put,List.setIfInBounds_toArray,List.set_cons_zero,List.set_cons_succ]
  refine wpAnyH_take (i:=20) (oi:={ dst:=some 45,op:=_,type:=_,pos:=_,after:=_,guard:=_ }) (v:=.int .i64 (g:Int)) rfl (by kernel_rfl) (by kernel_rfl) (by kernel_rfl) (fun _ _ _ h=>h) (Or.inl ⟨by rfl,fun w hSw=>by (obtain ⟨y0,y1,y2,y3,y4⟩:=hSw;first | (go_simp;done) | go_simp)⟩) (by assumption) ?_
  simp only [Act.put,List.setIfInBounds_toArray,List.set_cons_zero,List.set_cons_succ]
  refine wpAnyH_take (i:=21) (oi:={ dst:=some 46,op:=_,type:=_,pos:=_,after:=_,guard:=_ }) (v:=.pointer (some ⟨lb,g*3,none⟩)) rfl (by kernel_rfl) (by kernel_rfl) (by kernel_rfl) (fun _ _ _ h=>h) (Or.inl ⟨by rfl,fun w hSw=>by (obtain ⟨y0,y1,y2,y3,y4⟩:=hSw;first | (go_simp;done) | go_simp)⟩) (by assumption) ?_
  simp only [Act.put,List.setIfInBounds_toArray,List.set_cons_zero,List.set_cons_succ]
  refine wpAnyH_take (i:=22) (oi:={ dst:=some 47,op:=_,type:=_,pos:=_,after:=_,guard:=_ }) (v:=.pointer (some ⟨lb,g*3+2,none⟩)) rfl (by kernel_rfl) (by kernel_rfl) (by kernel_rfl) (fun _ _ _ h=>h) (Or.inl ⟨by rfl,fun w hSw=>by (obtain ⟨y0,y1,y2,y3,y4⟩:=hSw;first | (go_simp;done) | go_simp)⟩) (by assumption) ?_
  simp only [Act.put,List.setIfInBounds_toArray,List.set_cons_zero,List.set_cons_succ]
  refine wpAnyH_take (i:=23) (oi:={ dst:=some 48,op:=_,type:=_,pos:=_,after:=_,guard:=_ }) (v:=.int .i64 (d:Int)) rfl (by kernel_rfl) (by kernel_rfl) (by kernel_rfl) (fun _ _ _ h=>h) (Or.inl ⟨by rfl,fun w hSw=>by (obtain ⟨y0,y1,y2,y3,y4⟩:=hSw;first | (go_simp;done) | go_simp)⟩) (by assumption) ?_
  simp only [Act.put,List.setIfInBounds_toArray,List.set_cons_zero,List.set_cons_succ]
  refine wpAnyH_take (i:=24) (oi:={ dst:=some 49,op:=_,type:=_,pos:=_,after:=_,guard:=_ }) (v:=.int .i64 (q:Int)) rfl (by kernel_rfl) (by kernel_rfl) (by kernel_rfl) (fun _ _ _ h=>h) (Or.inl ⟨by rfl,fun w hSw=>by (obtain ⟨y0,y1,y2,y3,y4⟩:=hSw;first | (go_simp;done) | go_simp)⟩) (by assumption) ?_
  simp only [Act.put,List.setIfInBounds_toArray,List.set_cons_zero,List.set_cons_succ]
  refine wpAnyH_ready (rs:=[7]) (by kernel_rfl) (by simp) ?_
  refine AllReadyH.cons rfl (fun K hK=>?_) AllReadyH.nil
  rw [if_pos (by rfl)]
  go_simp
  refine hK.out _ _ hHeld (fun hHeld=>?_)
  clear hK
  try simp only [Act.put,List.setIfInBounds_toArray,List.set_cons_zero,List.set_cons_succ]
  refine wpAnyH_ready (rs:=[25]) (by kernel_rfl) (by simp) ?_
  refine AllReadyH.cons rfl (fun K hK=>?_) AllReadyH.nil
  rw [if_pos (by rfl)]
  go_simp
  refine Calls.mono (swap_any gb rb ab ob n _ row at' p q s u _ HMW.out.G HMW.out.r HMW.out.a HMW.out.ra hpn hqn HF.out.2.2.2.2.2.1 HF.out.2.2.2.2.1 hs hun (by omega) HP.out.al) ?_
  rintro e w2 ⟨rfl,hr2,ha2,ho2⟩
  have HO2:Hid (Only (fun b=>b=rb∨b=ab) X w2):=((Only.refl _ X).drew).trans ho2
  have HR2:Hid (Nb w2 rb ((row.set p u).set q s)∧Nb w2 ab ((at'.set s q).set u p)):=⟨hr2,ha2⟩
  clear hr2 ha2 ho2
  refine hK.out _ _ (HKP.out _ HO2.out) (fun hHeld=>?_)
  clear hK
  refine wpAnyH_done (by kernel_rfl) ?_ _
  clear hHeld z0 z1 z2 z3 z4 z5 z5d z6 z7 z8
  obtain ⟨z0,z1,z3,z6,z7⟩:=HKP.out _ HO2.out
  have HTOLD:=HMW.out.told HO2.out HR2.out.1 HR2.out.2 HF.out.2.2.1
  have HTO:Hid _:=HTOLD
  clear HTOLD
  have fz:∀ x,w2.frozen? ⟨lb,x,none⟩=false:=fun x=>by obtain ⟨cur,hc⟩:=HTO.out.2.1;exact fz_blk hc x
  have lgb2:gb < w2.heap.size:=Nat.lt_of_lt_of_le lgb HO2.out.size
  have lpg2:pg < w2.heap.size:=Nat.lt_of_lt_of_le lpg HO2.out.size
  have llb2:lb < w2.heap.size:=World.block_lt_of_cell? w2 _ z7
  go_wp2_with fail
  go_end0
  have ed:(.int .i64 ((d:Int)+1):Value)=.int .i64 ((d+1:Nat):Int):=by push_cast;rfl
  rw [ed]
  have hol:lb=lb:=rfl
  refine ⟨rfl,_,_,_,vmX,mtX,HTO.out.1,?_,⟨?_,?_,?_,HTW.out.2.2.2.1,HTW.out.2.2.2.2.1,HT.out.pp,HTW.out.2.2.2.2.2.1,ls_mem HF.out.2.2.1 HTW.out.2.2.2.2.2.2⟩,by rw [List.length_set];exact HF.out.1,?_⟩
  · have hq:=HQ.out
    have hru:=HF.out.2.2.2.2.1
    rw [hq] at hru ⊢
    exact HP.out.tell hs HF.out.2.1 HF.out.2.2.1 HF.out.2.2.2.1 hru hn
  · have hh:=HMW.out.hi
    have b1:=HTW.out.2.2.2.1
    refine (Below.heap_setCell _ _ _ _ ?_).trans ((HO2.out.block pg (Array.getElem?_eq_some_iff.1 HTW.out.1).1 (fun hs=>by omega)).trans HTW.out.1)
    intro e
    obtain ⟨c,hc⟩:=HCU.out
    have:=HTW.out.1
    simp only at e
    rw [e,hc] at this
    injection this with this
    injection this with _ this
    cases this
  · have hh:=HMW.out.hi
    have b1:=HTW.out.2.2.2.2.1
    refine (Below.heap_setCell _ _ _ _ ?_).trans ((HO2.out.block pm (Array.getElem?_eq_some_iff.1 HTW.out.2.1).1 (fun hs=>by omega)).trans HTW.out.2.1)
    intro e
    obtain ⟨c,hc⟩:=HCU.out
    have:=HTW.out.2.1
    simp only at e
    rw [e,hc] at this
    injection this with this
    injection this with _ this
    cases this
  · have hh:=HMW.out.hi
    have b1:=HTW.out.2.2.2.2.1
    refine own_off (own_only HTW.out.2.2.1 HO2.out (fun g hg hs=>by omega)) (fun cur' hc=>?_)
    obtain ⟨cur,hcc⟩:=HTO.out.2.1
    rw [hcc] at hc
    injection hc with hc
    injection hc with _ hc
    cases hc
  · exact (HOW.out.trans (Kt.of HO2.out (fun b o hb _=>hb.elim Or.inl (fun h=>Or.inr (Or.inl h))))).trans (Kt.of ((Only.refl (fun b=>b=lb) w2).setCell (p:=⟨lb,g*3+2,none⟩) rfl _) (fun b o hb _=>Or.inr (Or.inr (Or.inl (by rw [hb];rfl)))))
theorem tell_any (gb rb ab ob n base B1 pg pm K:Nat) (vL:Value) (row at' of:List Nat) (ls:List (Nat × Nat × Nat)) (T:Nat→Prop) (vm:Value) (mt:List Nat) (s:Nat) (w:World) (hM:Ms w gb rb ab ob n base B1 vL row at' of ls) (hP:Hm.Pt n row at' of ls T) (hT:Mt w pg pm gb B1 vm mt ls) (hs:s < n) (hn:¬ T s) (hK:ls.length=K) (hLP:∀ b,vL.ownBlock=some b→b < pm) :
    Calls Tryz.prog 91 #[.int .i64 (s:Int),.pointer (some ⟨pg,0,none⟩),.pointer (some ⟨pm,0,none⟩)] w (telP w gb rb ab ob n base B1 pg pm vL of K (fun x=>T x∨x=s)):=by
  obtain ⟨g,f,t,d,p,h1,h2,h3,h4,h5,h6,h7,h8,h9⟩:=hP.find hs
  have hge:f+d≤p:=by
    by_cases e:p < f+d
    · exact absurd (h9.1 e) hn
    · omega
  have hrl:=hP.rl
  obtain ⟨u,hu⟩:∃ u,row[f+d]?=some u:=⟨_,List.getElem?_eq_getElem (by omega)⟩
  by_cases hd:d=0
  · exact tell_first gb rb ab ob n base B1 pg pm K vL row at' of ls T vm mt s g f t d p u w hM hP hT hs hn hK h1 h2 h3 hu hLP hd
  · exact tell_more gb rb ab ob n base B1 pg pm K vL row at' of ls T vm mt s g f t d p u w hM hP hT hs hn hK h1 h2 h3 hu hLP (by omega)
end Go.Proofs.YtchaoonefiamdaaGreatDoor.L
