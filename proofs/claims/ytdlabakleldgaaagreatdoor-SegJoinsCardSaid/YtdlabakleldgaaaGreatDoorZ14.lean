/- Rule Class -/
import Derived.Test.YtdlabakleldgaaaGreatDoorZ00
import Derived.Test.YtdlabakleldgaaaGreatDoorZ13
set_option linter.unusedVariables false
set_option linter.unusedSimpArgs false
set_option maxRecDepth 100000
set_option maxHeartbeats 8000000
namespace Go.Proofs.YtdlabakleldgaaaGreatDoor
open Go.RowKit Go.Maps
theorem Cq:(Tryz.prog.info? 119).map (fun i=>(i.zero,i.size,i.bytes))=some (some (.agg #[.int .u8 0,.int .u8 0,.int .u32 0,.slice none 0 0,.int .u8 0,.int .u32 0,.slice none 0 0]),7,72):=by kernel_rfl
theorem bY.YY {w:World} {rb:Nat} {S:ByteArray} {i:Int} {x:Rd} (h:bY w rb S i x) (v:Value):bY (w.setCell ⟨rb,6,none⟩ v) rb S i { x with vL:=v}:=aa h _
theorem wS (wr:World) (d o s:Int) (k:Value) (o' s':Int) (k':Value):∀j u,[Value.int .u8 d,Value.int .u8 o,Value.int .u32 s,k,Value.int .u8 o',Value.int .u32 s',k'][j]?=some u→(wr.alloc (.cells #[.int .u8 d,.int .u8 o,.int .u32 s,k,.int .u8 o',.int .u32 s',k'] 119)).cell? ((⟨wr.heap.size,0,none⟩:Addr).add j)=some u:=by
 intro j u hj
 rw [Addr.add_mid,Nat.zero_add,cell_of_row _ _ _ _ _ _ (heap_alloc_new _ _)]
 simpa using hj
theorem uq (d o s:Int) (a:Option Addr) (n c:Nat) (o' s':Int) (a':Option Addr) (n' c':Nat):∀u∈[Value.int .u8 d,Value.int .u8 o,Value.int .u32 s,Value.slice a n c,Value.int .u8 o',Value.int .u32 s',Value.slice a' n' c'],u.oneCell'=true:=by
 intro u hu
 simp at hu
 rcases hu with rfl | rfl | rfl | rfl | rfl | rfl | rfl <;> rfl
theorem eF.rule {wa wb w':World} {rb:Nat} {x:Rd} {s:Rl.St} {does o st o' st':Int} {k k' v':Value} {l r:Rl.Ex} {xs:List Value} (h:eF wa rb x s) (hwb:Only (fun _=>False) wa wb) (hl:Tr wa (fun b=>rb+1≤b) l (.agg #[.int .u8 o,.int .u32 st,k])) (hr:Tr wa (fun b=>rb+1≤b) r (.agg #[.int .u8 o',.int .u32 st',k']))
  (hx:wa.ownsRow (rb+1) 119 7 x.vL s.list.length xs) (hxr:vk wa (fun b=>rb+1≤b) s.list (fun j=>xs[j]?)) (hown:w'.ownsRow (rb+1) 119 7 v' (s.list.length+1) (xs++[.int .u8 does,.int .u8 o,.int .u32 st,k,.int .u8 o',.int .u32 st',k'])) (hg:wb.grownBy w' x.vL.ownBlock) (hn:s.list.length < 24) (hcl:Cl wa rb):
  eF (w'.setCell ⟨rb,6,none⟩ v') rb { x with vL:=v'} { s with list:=s.list++[⟨does,l,r⟩]}∧Fr rb x.mb wa (w'.setCell ⟨rb,6,none⟩ v')∧(rb < wa.heap.size→w'.heap[rb]?=wa.heap[rb]?):=by
 have hO:Only (fun g=>x.vL.ownBlock=some g) wa w':=(hwb.mono (fun _ h=>h.elim)).grown hg (fun k hk=>hk)
 have JA:∀g,x.vL.ownBlock=some g→rb+1≤g:=fun g hg=>(hx.lt g hg).1
 have htag:∀e',e'≠119→∀q,x.vL.ownBlock=some q→∀cur z,wa.heap[q]?≠some (.cells cur e' z):=fun e' he q hq cur z hh=>by
  obtain⟨_,⟨hv,_⟩ | ⟨g',cap',cur',hv,hb,hh',_⟩⟩:=hx
  ·rw [hv] at hq;cases hq
  ·rw [hv] at hq
   injection hq with hq
   simp only at hq
   subst hq
   rw [hh'] at hh
   injection hh with hh
   injection hh with _ h2
   exact he h2.symm
 have hset:Only (·=rb) w' (w'.setCell ⟨rb,6,none⟩ v'):=(Only.refl (·=rb) w').setCell (p:=⟨rb,6,none⟩) rfl _
 have hmb:=h.mb
 refine⟨⟨ai (dS h.cls hO (htag 9 (by decide))) hset (fun g hg=>by omega),ai (dS h.vo hO (htag 3 (by decide))) hset (fun g hg=>by omega),?_,(h.mp.only hO (fun e=>by have:=JA _ e;omega)).only hset (by omega),h.jn,h.af,h.pl,h.op,h.mb,h.c24,by simp;omega,h.iJ⟩,?_,fun hrb=>hO.block rb hrb (fun e=>by have:=JA _ e;omega)⟩
 ·refine BI.only ⟨xs++[.int .u8 does,.int .u8 o,.int .u32 st,k,.int .u8 o',.int .u32 st',k'],by rw [List.length_append];exact hown,?_⟩ hset (fun g hg=>by omega)
  have hk:∀b,rb+1≤b→b < wa.heap.size→(∃cs z,wa.heap[b]?=some (.cells cs 117 z))→rb+1≤b∧w'.heap[b]?=wa.heap[b]?:=fun b hb hbl hc=>⟨hb,hO.block b hbl (fun e=>by obtain⟨cs,z,hc⟩:=hc;exact htag 117 (by decide) b e _ _ hc)⟩
  exact vk.snoc (r:=⟨does,l,r⟩) (hl.fu hk) (hr.fu hk) s.list xs (by rw [hx.1];omega) (hxr.fu hk)
 ·refine (hO.Jk hx _).trans (hset.fr ?_ _)
  obtain⟨cs,t,z,hcc⟩:=hcl
  exact⟨cs,t,z,(hO.block rb (Array.getElem?_eq_some_iff.1 hcc).1 (fun e=>by have:=JA _ e;omega)).trans hcc⟩
theorem kF (does:Int) (rb:Nat) (S:ByteArray) (x:Rd) (s:Rl.St) (ts:List Rl.Tk) (w:World) (h:In w rb S x ts) (hS:S.size≤4096) (hT:eF w rb x s) (tx:Rl.Str) (ti:Nat):
  Calls Tryz.prog 90 #[.pointer (some ⟨rb,0,none⟩),.agg #[.string (bs tx),.int .i64 (ti:Int)],.int .u8 does] w (pq rb S x.mb w (Rl.bV does ti ts s)):=by
 obtain⟨i0,hi,hz0,hz1,hz2⟩:=info_parts Cq
 have hlt:=h.lt
 have HI:=zH h
 have HS:=zH hT
 have hmb:x.mb≠rb:=by have:=hT.mb;omega
 obtain⟨F,hF⟩:∃F,F=Rl.bV does ti ts s:=⟨_,rfl⟩
 have HF:=zH hF
 rw [←hF]
 obtain⟨xs,hown,YZ⟩:=hT.iE
 obtain⟨aL,nS,Ev⟩:=ah hown
 have JB:=zH Ev
 have aa3:=hT.Eo
 obtain⟨i,hR,_,_⟩:=h
 have c6:w.cell? ⟨rb,6,none⟩=some (.slice aL s.list.length nS):=by rw [←Ev];exact hR.c6
 clear hF hT hown YZ Ev hR
 by_cases vz:s.list.length=24
 ·have HE:Hid (F=.error (24,ti)):=(by rw [HF.out];unfold Rl.bV;rw [if_pos vz]:F=.error (24,ti))
  have q:((s.list.length:Int)==24)=true:=by simp;omega
  clear vz
  go_enter Tryz.func90,Tryz.ntmps90
  go_wp2_with (go_at_call 53;refine (bR 24 ti _).mono ?_;rintro e w3 ⟨rfl,rfl⟩)
  refine⟨rfl,?_⟩
  rw [HE.out]
  exact⟨rfl,((Only.refl (·=rb) w).alloc _).fr HI.out.cl _⟩
 ·have q:((s.list.length:Int)==24)=false:=by simp;omega
  have hEi:∀(y:Rd) (p:Nat) (us:List Rl.Tk) (W:World),In W rb S y us→Mp W y.mb s.env→Cx s.cls.length rb y p 0→Calls Tryz.prog 111 #[.pointer (some ⟨rb,0,none⟩)] W (zQ rb S y W (Rl.either s.env s.cls.length (Rl.fuel us) 0 us p)):=fun y p us W h1 h2 h3=>nK s.env s.cls.length rb S hS (Rl.fuel us) 0 p y us W h1 h2 h3 (by unfold Rl.fuel;omega)
  have Ud:=zH hEi
  have Nt:s.list.length < 24:=by omega
  clear hEi
  cases he1:Rl.either s.env s.cls.length (Rl.fuel ts) 0 ts s.places with
  | error f=>
   have T1:=zH he1
   have HE:Hid (F=.error f):=(by rw [HF.out];unfold Rl.bV;rw [if_neg vz];simp only [he1]:F=.error f)
   clear he1 vz
   go_enter Tryz.func90,Tryz.ntmps90
   go_wp2_with (go_at_call 111;have hc:=Ud.out x s.places ts (w.alloc (.cells #[.string (bs tx),.int .i64 (ti:Int)] 108)) (HI.out.alloc _) (HS.out.mp.alloc _) HS.out.cx;rw [T1.out] at hc;refine hc.mono ?_;clear hc;rintro e w1 ⟨rfl,ho1⟩)
   refine⟨rfl,?_⟩
   rw [HE.out]
   exact⟨rfl,(((Only.refl (·=rb) w).alloc _).trans ho1).fr HI.out.cl _⟩
  | ok r=>
   obtain⟨ea,bK,p1⟩:=r
   have T1:=zH he1
   have hp1:=((Rl.bF s.env s.cls.length _).1 _ _ _ _ _ _ he1 HS.out.iJ).2
   clear he1
   cases hw:Rl.want 47 bK with
   | error f=>
    have T2:=zH hw
    have HE:Hid (F=.error f):=(by rw [HF.out];unfold Rl.bV;rw [if_neg vz];simp only [T1.out,hw]:F=.error f)
    clear hw vz
    go_enter Tryz.func90,Tryz.ntmps90
    go_wp2_with (first |(go_at_call 111;have hc:=Ud.out x s.places ts (w.alloc (.cells #[.string (bs tx),.int .i64 (ti:Int)] 108)) (HI.out.alloc _) (HS.out.mp.alloc _) HS.out.cx;rw [T1.out] at hc;refine hc.mono ?_;clear hc;rintro e w1 ⟨v1,rfl,hT1,hI1,ho1⟩;obtain⟨o,st,a,k,c,rfl⟩:=hT1.form;have HI1:=zH hI1;clear hI1 hT1) |(go_at_call 55;have hc:=aU 47 rb S (x.ay p1) bK _ (HI1.out.alloc (.cells #[.int .u8 o,.int .u32 st,.slice a k c] 117)) hS;rw [T2.out] at hc;refine hc.mono ?_;clear hc;rintro e w2 ⟨rfl,ho2⟩))
    refine⟨rfl,?_⟩
    rw [HE.out]
    exact⟨rfl,(((((Only.refl (·=rb) w).alloc _).trans ho1).alloc _).trans ho2).fr HI.out.cl _⟩
   | ok dC=>
    have T2:=zH hw
    clear hw
    cases he2:Rl.either s.env s.cls.length (Rl.fuel dC) 0 dC p1 with
    | error f=>
     have T3:=zH he2
     have HE:Hid (F=.error f):=(by rw [HF.out];unfold Rl.bV;rw [if_neg vz];simp only [T1.out,T2.out,he2]:F=.error f)
     clear he2 vz
     go_enter Tryz.func90,Tryz.ntmps90
     go_wp2_with (first |(go_at_call 55;have hc:=aU 47 rb S (x.ay p1) bK _ (HI1.out.alloc (.cells #[.int .u8 o,.int .u32 st,.slice a k c] 117)) hS;rw [T2.out] at hc;refine hc.mono ?_;clear hc;rintro e w2 ⟨rfl,hI2,ho2⟩;have HI2:=zH hI2;clear hI2;have aK:Hid (Only (·=rb) w w2):=(bu.out.alloc _).trans ho2) |(go_at_call 111;have hc:=Ud.out (x.ay p1) p1 dC _ HI2.out ((HS.out.only aK.out).mp) ((HS.out.only aK.out).cx.ay hp1);rw [T3.out] at hc;refine hc.mono ?_;clear hc;rintro e w3 ⟨rfl,ho3⟩) |(go_at_call 111;have hc:=Ud.out x s.places ts (w.alloc (.cells #[.string (bs tx),.int .i64 (ti:Int)] 108)) (HI.out.alloc _) (HS.out.mp.alloc _) HS.out.cx;rw [T1.out] at hc;refine hc.mono ?_;clear hc;rintro e w1 ⟨v1,rfl,hT1,hI1,ho1⟩;obtain⟨o,st,a,k,c,rfl⟩:=hT1.form;have HI1:=zH hI1;clear hI1 hT1;have bu:Hid (Only (·=rb) w w1):=((Only.refl (·=rb) w).alloc _).trans ho1))
     refine⟨rfl,?_⟩
     rw [HE.out]
     exact⟨rfl,(aK.out.trans ho3).fr HI.out.cl _⟩
    | ok r=>
     obtain⟨eb,qF,p3⟩:=r
     have T3:=zH he2
     have hp3:=((Rl.bF s.env s.cls.length _).1 _ _ _ _ _ _ he2 hp1).2
     have HE:Hid (F=.ok (qF,{ s with places:=p3,list:=s.list++[⟨does,ea,eb⟩]})):=(by rw [HF.out];unfold Rl.bV;rw [if_neg vz];simp only [T1.out,T2.out,he2]:F=.ok (qF,{ s with places:=p3,list:=s.list++[⟨does,ea,eb⟩]}))
     clear he2 vz
     go_enter Tryz.func90,Tryz.ntmps90
     go_wp2_with (first |(go_at_call 55;have hc:=aU 47 rb S (x.ay p1) bK _ (HI1.out.alloc (.cells #[.int .u8 o,.int .u32 st,.slice a k c] 117)) hS;rw [T2.out] at hc;refine hc.mono ?_;clear hc;rintro e w2 ⟨rfl,hI2,ho2⟩;have HI2:=zH hI2;clear hI2;have aK:Hid (Only (·=rb) w w2):=(bu.out.alloc _).trans ho2;have X2:Hid (Xb w2 w1.heap.size (.int .u8 o) (.int .u32 st) (.slice a k c)):=(Xb.new w1 _ _ _).only ho2 (by omega);have TL2:Hid (Tr w2 (fun b=>rb+1≤b) ea (.agg #[.int .u8 o,.int .u32 st,.slice a k c])):=TL1.out.later (((Only.refl (·=rb) w1).alloc _).trans ho2) (fun b hb=>by omega) (fun b hb=>hb);have hl2:=aK.out.size) |(go_at_call 111;have hc:=Ud.out (x.ay p1) p1 dC _ HI2.out ((HS.out.only aK.out).mp) ((HS.out.only aK.out).cx.ay hp1);rw [T3.out] at hc;refine hc.mono ?_;clear hc;rintro e w3 ⟨v3,rfl,Nc,dQ,ho3⟩;obtain⟨o',st',a',k',c',rfl⟩:=Nc.form;have HI3:=zH dQ;have TR3:Hid (Tr w3 (fun b=>rb+1≤b) eb (.agg #[.int .u8 o',.int .u32 st',.slice a' k' c'])):=Nc.keep (fun b hb _=>⟨by omega,rfl⟩);clear dQ Nc;have fK:Hid (Only (·=rb) w w3):=aK.out.trans ho3;have X3:Hid (Xb w3 w1.heap.size (.int .u8 o) (.int .u32 st) (.slice a k c)):=X2.out.only ho3 (by omega);have TL3:Hid (Tr w3 (fun b=>rb+1≤b) ea (.agg #[.int .u8 o,.int .u32 st,.slice a k c])):=TL2.out.later ho3 (fun b hb=>by omega) (fun b hb=>hb);have hl3:=X3.out.lt) |(go_at_call 111;have hc:=Ud.out x s.places ts (w.alloc (.cells #[.string (bs tx),.int .i64 (ti:Int)] 108)) (HI.out.alloc _) (HS.out.mp.alloc _) HS.out.cx;rw [T1.out] at hc;refine hc.mono ?_;clear hc;rintro e w1 ⟨v1,rfl,hT1,hI1,ho1⟩;obtain⟨o,st,a,k,c,rfl⟩:=hT1.form;have HI1:=zH hI1;have TL1:Hid (Tr w1 (fun b=>rb+1≤b) ea (.agg #[.int .u8 o,.int .u32 st,.slice a k c])):=hT1.keep (fun b hb _=>⟨by simp at hb;omega,rfl⟩);clear hI1 hT1;have bu:Hid (Only (·=rb) w w1):=((Only.refl (·=rb) w).alloc _).trans ho1;have hl1:=bu.out.size))
     obtain⟨i6,ui,hs6⟩:=(HI3.out.alloc (.cells #[.int .u8 o',.int .u32 st',.slice a' k' c'] 117)).drew
     have Ij:=zH ui
     have Hs6:=zH hs6
     have c6':(w3.alloc (.cells #[.int .u8 o',.int .u32 st',.slice a' k' c'] 117)).drew.cell? ⟨rb,6,none⟩=some (.slice aL s.list.length nS):=by rw [←JB.out];exact ui.c6
     have Y0:((w3.alloc (.cells #[.int .u8 o',.int .u32 st',.slice a' k' c'] 117)).drew.alloc (.cells #[.int .u8 does,.int .u8 o,.int .u32 st,.slice a k c,.int .u8 o',.int .u32 st',.slice a' k' c'] 119)).cell? ⟨rb,6,none⟩=some (.slice aL s.list.length nS):=by rw [←JB.out];exact (ui.alloc _).c6
     have aaT:((w3.alloc (.cells #[.int .u8 o',.int .u32 st',.slice a' k' c'] 117)).alloc (.cells #[.int .u8 does,.int .u8 o,.int .u32 st,.slice a k c,.int .u8 o',.int .u32 st',.slice a' k' c'] 119)).cell? ⟨rb,6,none⟩=some (.slice aL s.list.length nS):=Y0
     have T9:Hid (eF (w3.alloc (.cells #[.int .u8 o',.int .u32 st',.slice a' k' c'] 117)).drew rb (x.ay p3) { s with places:=p3}):=(HS.out.only ((fK.out.alloc (.cells #[.int .u8 o',.int .u32 st',.slice a' k' c'] 117)).drew)).ay hp3
     have UZ:Hid (Xb (w3.alloc (.cells #[.int .u8 o',.int .u32 st',.slice a' k' c'] 117)).drew w1.heap.size (.int .u8 o) (.int .u32 st) (.slice a k c)):=X3.out.alloc _
     have U0:Hid (Xb (w3.alloc (.cells #[.int .u8 o',.int .u32 st',.slice a' k' c'] 117)).drew w3.heap.size (.int .u8 o') (.int .u32 st') (.slice a' k' c')):=Xb.new w3 _ _ _
     have TL0:Hid (Tr (w3.alloc (.cells #[.int .u8 o',.int .u32 st',.slice a' k' c'] 117)).drew (fun b=>rb+1≤b) ea (.agg #[.int .u8 o,.int .u32 st,.slice a k c])):=TL3.out.later (((Only.refl (·=rb) w3).alloc _).drew) (fun b hb=>by omega) (fun b hb=>hb)
     have TR0:Hid (Tr (w3.alloc (.cells #[.int .u8 o',.int .u32 st',.slice a' k' c'] 117)).drew (fun b=>rb+1≤b) eb (.agg #[.int .u8 o',.int .u32 st',.slice a' k' c'])):=TR3.out.later (((Only.refl (·=rb) w3).alloc _).drew) (fun b hb=>by omega) (fun b hb=>hb)
     obtain⟨xs,hown0,PM⟩:=T9.out.iE
     have JC:Hid ((w3.alloc (.cells #[.int .u8 o',.int .u32 st',.slice a' k' c'] 117)).drew.ownsRow (rb+1) 119 7 (.slice aL s.list.length nS) s.list.length xs):=by rw [←JB.out];exact hown0
     have U1:=zH PM
     have U2:Hid (∀j u,[Value.int .u8 does,Value.int .u8 o,Value.int .u32 st,Value.slice a k c,Value.int .u8 o',Value.int .u32 st',Value.slice a' k' c'][j]?=some u→((w3.alloc (.cells #[.int .u8 o',.int .u32 st',.slice a' k' c'] 117)).drew.alloc (.cells #[.int .u8 does,.int .u8 o,.int .u32 st,.slice a k c,.int .u8 o',.int .u32 st',.slice a' k' c'] 119)).cell? ((⟨w3.heap.size+1,0,none⟩:Addr).add j)=some u):=(by
      have h:=wS (w3.alloc (.cells #[.int .u8 o',.int .u32 st',.slice a' k' c'] 117)).drew does o st (.slice a k c) o' st' (.slice a' k' c')
      rw [show (w3.alloc (.cells #[.int .u8 o',.int .u32 st',.slice a' k' c'] 117)).drew.heap.size=w3.heap.size+1 from Array.size_push _] at h
      exact h:∀j u,[Value.int .u8 does,Value.int .u8 o,Value.int .u32 st,Value.slice a k c,Value.int .u8 o',Value.int .u32 st',Value.slice a' k' c'][j]?=some u→((w3.alloc (.cells #[.int .u8 o',.int .u32 st',.slice a' k' c'] 117)).drew.alloc (.cells #[.int .u8 does,.int .u8 o,.int .u32 st,.slice a k c,.int .u8 o',.int .u32 st',.slice a' k' c'] 119)).cell? ((⟨w3.heap.size+1,0,none⟩:Addr).add j)=some u)
     have HSa:Hid (Xb ((w3.alloc (.cells #[.int .u8 o',.int .u32 st',.slice a' k' c'] 117)).drew.alloc (.cells #[.int .u8 does,.int .u8 o,.int .u32 st,.slice a k c,.int .u8 o',.int .u32 st',.slice a' k' c'] 119)) w1.heap.size (.int .u8 o) (.int .u32 st) (.slice a k c)∧Xb ((w3.alloc (.cells #[.int .u8 o',.int .u32 st',.slice a' k' c'] 117)).drew.alloc (.cells #[.int .u8 does,.int .u8 o,.int .u32 st,.slice a k c,.int .u8 o',.int .u32 st',.slice a' k' c'] 119)) w3.heap.size (.int .u8 o') (.int .u32 st') (.slice a' k' c')):=⟨UZ.out.alloc _,U0.out.alloc _⟩
     clear ui hs6 hown0 PM
     refine wp_region_held_drew (S:=fun w'=>Xb w' w1.heap.size (.int .u8 o) (.int .u32 st) (.slice a k c)∧Xb w' w3.heap.size (.int .u8 o') (.int .u32 st') (.slice a' k' c')) (by kernel_rfl) ⟨UZ.out,U0.out⟩ (fun hHeld=>?_)
     refine bQ (i:=0) (v:=Value.pointer (some ⟨rb,0,none⟩)) rfl ?_
     simp only [Act.put,zA,zB,zC]
     refine bQ (i:=1) (v:=Value.pointer (some ⟨rb,0,none⟩)) rfl ?_
     simp only [Act.put,zA,zB,zC]
     refine bQ (i:=2) (v:=Value.pointer (some ⟨rb,0,none⟩)) rfl ?_
     simp only [Act.put,zA,zB,zC]
     refine bQ (i:=3) (v:=Value.pointer (some ⟨rb,2,none⟩)) rfl ?_
     simp only [Act.put,zA,zB,zC]
     refine bQ (i:=4) (v:=Value.pointer (some ⟨rb,6,none⟩)) rfl ?_
     simp only [Act.put,zA,zB,zC]
     refine bQ (i:=6) (v:=Value.int .u8 does) rfl ?_
     simp only [Act.put,zA,zB,zC]
     refine tk (i:=7) (v:=Value.agg #[.int .u8 o,.int .u32 st,.slice a k c]) rfl (Or.inl ⟨by rfl,fun w hSw=>by obtain⟨h1,h2⟩:=hSw;have q0:=h1.c0;have q1:=h1.c1;have q2:=h1.c2;have q3:=h2.c0;have q4:=h2.c1;have q5:=h2.c2;clear h1 h2;go_simp⟩) ?_
     simp only [Act.put,zA,zB,zC]
     refine tk (i:=8) (v:=Value.agg #[.int .u8 o',.int .u32 st',.slice a' k' c']) rfl (Or.inl ⟨by rfl,fun w hSw=>by obtain⟨h1,h2⟩:=hSw;have q0:=h1.c0;have q1:=h1.c1;have q2:=h1.c2;have q3:=h2.c0;have q4:=h2.c1;have q5:=h2.c2;clear h1 h2;go_simp⟩) ?_
     simp only [Act.put,zA,zB,zC]
     refine bQ (i:=9) (v:=Value.agg #[.int .u8 does,.int .u8 o,.int .u32 st,.slice a k c,.int .u8 o',.int .u32 st',.slice a' k' c']) rfl ?_
     simp only [Act.put,zA,zB,zC]
     refine wpAnyH_ready (rs:=[5,10]) (by kernel_rfl) (by simp) ?_
     refine AllReadyH.cons rfl (fun K hK=>?_) (AllReadyH.cons rfl (fun K hK=>?_) AllReadyH.nil)
     focus
      rw [if_pos (by rfl)]
      go_simp
      refine hK.out _ _ ⟨UZ.out,U0.out⟩ (fun iK=>?_)
      clear hK
      refine wpAnyH_ready (rs:=[10]) (by kernel_rfl) (by simp) ?_
     rotate_left
     focus
      rw [if_pos (by rfl)]
      go_simp
      refine hK.out _ _ HSa.out (fun iK=>?_)
      clear hK
      refine wpAnyH_ready (rs:=[5]) (by kernel_rfl) (by simp) ?_
     rotate_left
     all_goals
      refine AllReadyH.cons rfl (fun K hK=>?_) AllReadyH.nil
      rw [if_pos (by rfl)]
      go_simp
      refine hK.out _ _ HSa.out (fun nQ=>?_)
      clear hK
      refine wpAnyH_ready (rs:=[11]) (by kernel_rfl) (by simp) ?_
      refine AllReadyH.cons rfl (fun K hK=>?_) AllReadyH.nil
      refine cK rfl (wp_append_at _ _ _ 33 rfl (rb+1) 119 i0 (.agg #[.int .u8 0,.int .u8 0,.int .u32 0,.slice none 0 0,.int .u8 0,.int .u32 0,.slice none 0 0]) 7 72 Tryz.underlying33 hi hz0 hz1 hz2 rfl (by decide) (.slice aL s.list.length nS) s.list.length xs rfl (JC.out.alloc _) ⟨w3.heap.size+1,0,none⟩ 1 1 [.int .u8 does,.int .u8 o,.int .u32 st,.slice a k c,.int .u8 o',.int .u32 st',.slice a' k' c'] rfl rfl U2.out (uq _ _ _ _ _ _ _ _ _ _ _) (by unfold maxLen;omega) (by omega) (by simp;omega) ?_)
      intro v5 w5 hown5 hg5
      obtain⟨gv,jU,rfl,Nv,Ny,Nz,_⟩:=ax hown5 (by omega)
      have JD:((w3.alloc (.cells #[.int .u8 o',.int .u32 st',.slice a' k' c'] 117)).drew.alloc (.cells #[.int .u8 does,.int .u8 o,.int .u32 st,.slice a k c,.int .u8 o',.int .u32 st',.slice a' k' c'] 119)).grownBy w5 (x.ay p3).vL.ownBlock:=by rw [show (x.ay p3).vL=x.vL from rfl,JB.out];exact hg5
      obtain⟨Y6,JE,JF⟩:=eF.rule (does:=does) T9.out ((Only.refl (fun _=>False) _).alloc (.cells #[.int .u8 does,.int .u8 o,.int .u32 st,.slice a k c,.int .u8 o',.int .u32 st',.slice a' k' c'] 119)) TL0.out TR0.out (by rw [show (x.ay p3).vL=x.vL from rfl,JB.out];exact JC.out) U1.out hown5 JD Nt Ij.out.cl
      have h_:bY w5 rb S (i6:Int) (x.ay p3):=(JF Ij.out.lt).trans Ij.out
      have e6:w5.cell? ⟨rb,6,none⟩=some (.slice aL s.list.length nS):=by rw [←JB.out];exact h_.c6
      have g6:=h_.fz 6
      have NA:∀g o1 s1 k1,Xb (w3.alloc (.cells #[.int .u8 o',.int .u32 st',.slice a' k' c'] 117)).drew g o1 s1 k1→Xb w5 g o1 s1 k1:=fun g o1 s1 k1 hX=>by
       have hl:=hX.lt
       refine (hg5.block g (by simp only [World.alloc,Array.size_push,World.drew] at hl ⊢;omega) (fun e=>?_)).trans ((Below.heap_alloc _ _ _ hl).trans hX)
       obtain⟨_,⟨hv,_⟩ | ⟨g',cap',cur',hv,hb,hh',_⟩⟩:=JC.out
       ·rw [hv] at e;cases e
       ·rw [hv] at e
        injection e with e
        simp only at e
        subst e
        rw [show (w3.alloc (.cells #[.int .u8 o',.int .u32 st',.slice a' k' c'] 117)).drew.heap[g]?=_ from hX] at hh'
        injection hh' with hh'
        injection hh' with _ h2
        exact absurd h2 (by decide)
      refine hK.out _ _ ⟨NA _ _ _ _ UZ.out,NA _ _ _ _ U0.out⟩ (fun gI=>?_)
      clear hK
      try simp only [Act.put,zA,zB,zC]
      refine bQ (i:=12) (v:=Value.pointer (some ⟨rb,0,none⟩)) rfl ?_
      simp only [Act.put,zA,zB,zC]
      refine bQ (i:=13) (v:=Value.pointer (some ⟨rb,2,none⟩)) rfl ?_
      simp only [Act.put,zA,zB,zC]
      refine bQ (i:=14) (v:=Value.pointer (some ⟨rb,6,none⟩)) rfl ?_
      simp only [Act.put,zA,zB,zC]
      refine wpAnyH_ready (rs:=[15]) (by kernel_rfl) (by simp) ?_
      refine AllReadyH.cons rfl (fun K hK=>?_) AllReadyH.nil
      rw [if_pos (by rfl)]
      go_simp
      refine hK.out _ _ ⟨(NA _ _ _ _ UZ.out).only (P:=(·=rb)) ((Only.refl (·=rb) w5).setCell (p:=⟨rb,6,none⟩) rfl _) (by omega),(NA _ _ _ _ U0.out).only (P:=(·=rb)) ((Only.refl (·=rb) w5).setCell (p:=⟨rb,6,none⟩) rfl _) (by omega)⟩ (fun gJ=>?_)
      clear hK
      refine wpAnyH_done (by kernel_rfl) ?_ _
      clear gI gJ
      go_wp2_with fail
      go_end0
      rw [HE.out]
      exact⟨rfl,{ x.ay p3 with vL:=.slice (some ⟨gv,0,none⟩) (s.list.length+1) jU},rfl,⟨i6,h_.YY _,Hs6.out⟩,Y6,(((fK.out.alloc _).drew).fr HI.out.cl _).trans JE⟩
theorem JG:(Tryz.prog.info? 9).map (fun i=>(i.zero,i.size,i.bytes))=some (some (.string ⟨#[]⟩),1,16):=by kernel_rfl
theorem info3:(Tryz.prog.info? 3).map (fun i=>(i.zero,i.size,i.bytes))=some (some (.int .i64 0),1,8):=by kernel_rfl
theorem bY.set2 {w:World} {rb:Nat} {S:ByteArray} {i:Int} {x:Rd} (h:bY w rb S i x) (v:Value):bY (w.setCell ⟨rb,2,none⟩ v) rb S i { x with vC:=v}:=aa h _
theorem bY.vM {w:World} {rb:Nat} {S:ByteArray} {i:Int} {x:Rd} (h:bY w rb S i x) (v:Value):bY (w.setCell ⟨rb,5,none⟩ v) rb S i { x with vT:=v}:=aa h _
structure wT (w:World) (rb:Nat) (x:Rd) (s:Rl.St) (C:List Rl.Str) (T:List Int):Prop where
 cls:w.ownsRow (rb+1) 9 1 x.vC C.length (strs C)
 vo:w.ownsRow (rb+1) 3 1 x.vT T.length (ints T)
 iE:BI w (rb+1) x.vL s.list
 mp:Mp w x.mb s.env
 jn:x.j=s.join
 af:x.a=s.after
 pl:x.pl=(s.places:Int)
 op:x.op=0
 mb:x.mb < rb
 Eo:s.list.length≤24
 iJ:s.places≤200
theorem eF.JH {w:World} {rb:Nat} {x:Rd} {s:Rl.St} (h:eF w rb x s):s.au.length=s.cls.length:=by
 have:=h.vo.1
 unfold ints at this
 rw [List.length_map] at this
 omega
theorem eF.prt {w:World} {rb:Nat} {x:Rd} {s:Rl.St} (h:eF w rb x s):wT w rb x s s.cls s.au:=⟨h.cls,by rw [h.JH];exact h.vo,h.iE,h.mp,h.jn,h.af,h.pl,h.op,h.mb,h.Eo,h.iJ⟩
theorem dU {w:World} {base e size n:Nat} {v:Value} {xs:List Value} (hx:w.ownsRow base e size v n xs):∀e',e'≠e→∀q,v.ownBlock=some q→∀cur z,w.heap[q]?≠some (.cells cur e' z):=fun e' he q hq cur z hh=>by
 obtain⟨_,⟨hv,_⟩ | ⟨g',cap',cur',hv,hb,hh',_⟩⟩:=hx
 ·rw [hv] at hq;cases hq
 ·rw [hv] at hq
  injection hq with hq
  simp only at hq
  subst hq
  rw [hh'] at hh
  injection hh with hh
  injection hh with _ h2
  exact he h2.symm
theorem wT.NB {wa wb w':World} {rb:Nat} {x:Rd} {s:Rl.St} {C:List Rl.Str} {T:List Int} {c:Rl.Str} {v':Value} (h:wT wa rb x s C T) (hwb:Only (fun _=>False) wa wb) (hown:w'.ownsRow (rb+1) 9 1 v' (C.length+1) (strs C++[.string (bs c)])) (hg:wb.grownBy w' x.vC.ownBlock) (hcl:Cl wa rb):
  wT (w'.setCell ⟨rb,2,none⟩ v') rb { x with vC:=v'} s (C++[c]) T∧Fr rb x.mb wa (w'.setCell ⟨rb,2,none⟩ v')∧(rb < wa.heap.size→w'.heap[rb]?=wa.heap[rb]?)∧Only (fun g=>x.vC.ownBlock=some g) wa w':=by
 have hO:Only (fun g=>x.vC.ownBlock=some g) wa w':=(hwb.mono (fun _ h=>h.elim)).grown hg (fun k hk=>hk)
 have JA:∀g,x.vC.ownBlock=some g→rb+1≤g:=fun g hg=>(h.cls.lt g hg).1
 have htag:=dU h.cls
 have hset:Only (·=rb) w' (w'.setCell ⟨rb,2,none⟩ v'):=(Only.refl (·=rb) w').setCell (p:=⟨rb,2,none⟩) rfl _
 have hmb:=h.mb
 refine⟨⟨ai (by rw [List.length_append];unfold strs at hown ⊢;rw [List.map_append];exact hown) hset (fun g hg=>by omega),ai (dS h.vo hO (htag 3 (by decide))) hset (fun g hg=>by omega),(h.iE.Jy hO (htag 119 (by decide)) (htag 117 (by decide))).only hset (fun g hg=>by omega),(h.mp.only hO (fun e=>by have:=JA _ e;omega)).only hset (by omega),h.jn,h.af,h.pl,h.op,h.mb,h.Eo,h.iJ⟩,?_,fun hrb=>hO.block rb hrb (fun e=>by have:=JA _ e;omega),hO⟩
 obtain⟨cs,t,z,hcc⟩:=hcl
 exact (hO.Jk h.cls _).trans (hset.fr ⟨cs,t,z,(hO.block rb (Array.getElem?_eq_some_iff.1 hcc).1 (fun e=>by have:=JA _ e;omega)).trans hcc⟩ _)
theorem wT.Rc {wa wb w':World} {rb:Nat} {x:Rd} {s:Rl.St} {C:List Rl.Str} {T:List Int} {c:Int} {v':Value} (h:wT wa rb x s C T) (hwb:Only (fun _=>False) wa wb) (hown:w'.ownsRow (rb+1) 3 1 v' (T.length+1) (ints T++[.int .i64 c])) (hg:wb.grownBy w' x.vT.ownBlock) (hcl:Cl wa rb):
  wT (w'.setCell ⟨rb,5,none⟩ v') rb { x with vT:=v'} s C (T++[c])∧Fr rb x.mb wa (w'.setCell ⟨rb,5,none⟩ v')∧(rb < wa.heap.size→w'.heap[rb]?=wa.heap[rb]?)∧Only (fun g=>x.vT.ownBlock=some g) wa w':=by
 have hO:Only (fun g=>x.vT.ownBlock=some g) wa w':=(hwb.mono (fun _ h=>h.elim)).grown hg (fun k hk=>hk)
 have JA:∀g,x.vT.ownBlock=some g→rb+1≤g:=fun g hg=>(h.vo.lt g hg).1
 have htag:=dU h.vo
 have hset:Only (·=rb) w' (w'.setCell ⟨rb,5,none⟩ v'):=(Only.refl (·=rb) w').setCell (p:=⟨rb,5,none⟩) rfl _
 have hmb:=h.mb
 refine⟨⟨ai (dS h.cls hO (htag 9 (by decide))) hset (fun g hg=>by omega),ai (by rw [List.length_append];unfold ints at hown ⊢;rw [List.map_append];exact hown) hset (fun g hg=>by omega),(h.iE.Jy hO (htag 119 (by decide)) (htag 117 (by decide))).only hset (fun g hg=>by omega),(h.mp.only hO (fun e=>by have:=JA _ e;omega)).only hset (by omega),h.jn,h.af,h.pl,h.op,h.mb,h.Eo,h.iJ⟩,?_,fun hrb=>hO.block rb hrb (fun e=>by have:=JA _ e;omega),hO⟩
 obtain⟨cs,t,z,hcc⟩:=hcl
 exact (hO.Jk h.vo _).trans (hset.fr ⟨cs,t,z,(hO.block rb (Array.getElem?_eq_some_iff.1 hcc).1 (fun e=>by have:=JA _ e;omega)).trans hcc⟩ _)
theorem wT.addN {wa w':World} {rb:Nat} {x:Rd} {s:Rl.St} {c:Rl.Str} (h:wT wa rb x s (s.cls++[c]) (s.au++[(s.cls.length:Int)])) (hO:Only (·=x.mb) wa w') (hm:Mp w' x.mb (s.env++[(c,2 ^ s.cls.length)])) (hc:s.cls.length < 24) (ht:s.au.length=s.cls.length):eF w' rb x (Rl.addClass s c):=by
 have hmb:=h.mb
 have h1:=ai h.cls hO (fun g hg=>by omega)
 have h2:=ai h.vo hO (fun g hg=>by omega)
 refine⟨h1,?_,h.iE.only hO (fun g hg=>by omega),hm,h.jn,h.af,h.pl,h.op,h.mb,by unfold Rl.addClass;simp;omega,h.Eo,h.iJ⟩
 unfold Rl.addClass
 simp only [List.length_append,List.length_cons,List.length_nil] at h2 ⊢
 rw [ht] at h2
 exact h2
theorem eP (wr:World) (u:Value) (t:TypeId):∀j x,[u][j]?=some x→(wr.alloc (.cells #[u] t)).cell? ((⟨wr.heap.size,0,none⟩:Addr).add j)=some x:=by
 intro j x hj
 rw [Addr.add_mid,Nat.zero_add,cell_of_row _ _ _ _ _ _ (heap_alloc_new _ _)]
 simpa using hj
theorem JI (rb:Nat) (S:ByteArray) (x:Rd) (s:Rl.St) (ts:List Rl.Tk) (w:World) (h:In w rb S x ts) (hS:S.size≤4096) (hT:eF w rb x s) (tx:Rl.Str) (ti:Nat):
  Calls Tryz.prog 68 #[.pointer (some ⟨rb,0,none⟩),.agg #[.string (bs tx),.int .i64 (ti:Int)]] w (pq rb S x.mb w (Rl.bV 0 ti ts s)):=by
 have hO:Only (·=rb) w (w.alloc (.cells #[.string (bs tx),.int .i64 (ti:Int)] 108)):=(Only.refl (·=rb) w).alloc _
 have hc:=kF 0 rb S x s ts _ (h.alloc (.cells #[.string (bs tx),.int .i64 (ti:Int)] 108)) hS (hT.only hO) tx ti
 have HC:=zH hc
 have hcl:=h.cl
 clear hc h hT
 obtain⟨F,hF⟩:∃F,F=Rl.bV 0 ti ts s:=⟨_,rfl⟩
 rw [←hF] at HC ⊢
 clear hF
 cases F with
 | error f=>
  go_enter Tryz.func68,Tryz.ntmps68
  go_wp2_with (go_at_call 90;refine HC.out.mono ?_;rintro e w1 ⟨rfl,ho1⟩)
  exact⟨rfl,rfl,(hO.fr hcl _).trans ho1⟩
 | ok r=>
  obtain⟨ts',s'⟩:=r
  go_enter Tryz.func68,Tryz.ntmps68
  go_wp2_with (go_at_call 90;refine HC.out.mono ?_;rintro e w1 ⟨rfl,x',hx',hI',hS',ho1⟩;have HP:Hid (∃x',x'.mb=x.mb∧In w1 rb S x' ts'∧eF w1 rb x' s'):=⟨x',hx',hI',hS'⟩;clear hx' hI' hS')
  go_end0
  obtain⟨x',h1,h2,h3⟩:=HP.out
  exact⟨rfl,x',h1,h2,h3,(hO.fr hcl _).trans ho1⟩
theorem NC (rb:Nat) (S:ByteArray) (x:Rd) (s:Rl.St) (ts:List Rl.Tk) (w:World) (h:In w rb S x ts) (hS:S.size≤4096) (hT:eF w rb x s) (tx:Rl.Str) (ti:Nat):
  Calls Tryz.prog 69 #[.pointer (some ⟨rb,0,none⟩),.agg #[.string (bs tx),.int .i64 (ti:Int)]] w (pq rb S x.mb w (Rl.bV 1 ti ts s)):=by
 have hO:Only (·=rb) w (w.alloc (.cells #[.string (bs tx),.int .i64 (ti:Int)] 108)):=(Only.refl (·=rb) w).alloc _
 have hc:=kF 1 rb S x s ts _ (h.alloc (.cells #[.string (bs tx),.int .i64 (ti:Int)] 108)) hS (hT.only hO) tx ti
 have HC:=zH hc
 have hcl:=h.cl
 clear hc h hT
 obtain⟨F,hF⟩:∃F,F=Rl.bV 1 ti ts s:=⟨_,rfl⟩
 rw [←hF] at HC ⊢
 clear hF
 cases F with
 | error f=>
  go_enter Tryz.func69,Tryz.ntmps69
  go_wp2_with (go_at_call 90;refine HC.out.mono ?_;rintro e w1 ⟨rfl,ho1⟩)
  exact⟨rfl,rfl,(hO.fr hcl _).trans ho1⟩
 | ok r=>
  obtain⟨ts',s'⟩:=r
  go_enter Tryz.func69,Tryz.ntmps69
  go_wp2_with (go_at_call 90;refine HC.out.mono ?_;rintro e w1 ⟨rfl,x',hx',hI',hS',ho1⟩;have HP:Hid (∃x',x'.mb=x.mb∧In w1 rb S x' ts'∧eF w1 rb x' s'):=⟨x',hx',hI',hS'⟩;clear hx' hI' hS')
  go_end0
  obtain⟨x',h1,h2,h3⟩:=HP.out
  exact⟨rfl,x',h1,h2,h3,(hO.fr hcl _).trans ho1⟩
theorem JJ (rb:Nat) (S:ByteArray) (x:Rd) (s:Rl.St) (ts:List Rl.Tk) (w:World) (h:In w rb S x ts) (hS:S.size≤4096) (hT:eF w rb x s) (tx:Rl.Str) (ti:Nat):
  Calls Tryz.prog 70 #[.pointer (some ⟨rb,0,none⟩),.agg #[.string (bs tx),.int .i64 (ti:Int)]] w (pq rb S x.mb w (Rl.bV 2 ti ts s)):=by
 have hO:Only (·=rb) w (w.alloc (.cells #[.string (bs tx),.int .i64 (ti:Int)] 108)):=(Only.refl (·=rb) w).alloc _
 have hc:=kF 2 rb S x s ts _ (h.alloc (.cells #[.string (bs tx),.int .i64 (ti:Int)] 108)) hS (hT.only hO) tx ti
 have HC:=zH hc
 have hcl:=h.cl
 clear hc h hT
 obtain⟨F,hF⟩:∃F,F=Rl.bV 2 ti ts s:=⟨_,rfl⟩
 rw [←hF] at HC ⊢
 clear hF
 cases F with
 | error f=>
  go_enter Tryz.func70,Tryz.ntmps70
  go_wp2_with (go_at_call 90;refine HC.out.mono ?_;rintro e w1 ⟨rfl,ho1⟩)
  exact⟨rfl,rfl,(hO.fr hcl _).trans ho1⟩
 | ok r=>
  obtain⟨ts',s'⟩:=r
  go_enter Tryz.func70,Tryz.ntmps70
  go_wp2_with (go_at_call 90;refine HC.out.mono ?_;rintro e w1 ⟨rfl,x',hx',hI',hS',ho1⟩;have HP:Hid (∃x',x'.mb=x.mb∧In w1 rb S x' ts'∧eF w1 rb x' s'):=⟨x',hx',hI',hS'⟩;clear hx' hI' hS')
  go_end0
  obtain⟨x',h1,h2,h3⟩:=HP.out
  exact⟨rfl,x',h1,h2,h3,(hO.fr hcl _).trans ho1⟩
end Go.Proofs.YtdlabakleldgaaaGreatDoor
