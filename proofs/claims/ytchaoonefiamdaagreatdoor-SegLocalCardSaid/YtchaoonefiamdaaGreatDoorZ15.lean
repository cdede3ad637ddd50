/- Rule -/
import Derived.Test.YtchaoonefiamdaaGreatDoorZ14
namespace Go.Proofs.YtchaoonefiamdaaGreatDoor
open Go.RowKit Go.Maps
set_option linter.unusedVariables false
set_option linter.unusedSimpArgs false
theorem info52:(Tryz.prog.info? 90).map (fun i=>(i.zero,i.size,i.bytes))=some (some (.agg #[.int .u8 0,.int .u8 0,.int .u32 0,.slice none 0 0,.int .u8 0,.int .u32 0,.slice none 0 0]),7,72):=by kernel_rfl
theorem Rdr.set6 {w:World} {rb:Nat} {S:ByteArray} {i:Int} {x:Rd} (h:Rdr w rb S i x) (v:Value):Rdr (w.setCell ⟨rb,6,none⟩ v) rb S i { x with vL:=v }:=heap_setCell_at h _
theorem rule_news (wr:World) (d o s:Int) (k:Value) (o' s':Int) (k':Value):∀ j u,[Value.int .u8 d,Value.int .u8 o,Value.int .u32 s,k,Value.int .u8 o',Value.int .u32 s',k'][j]?=some u→(wr.alloc (.cells #[.int .u8 d,.int .u8 o,.int .u32 s,k,.int .u8 o',.int .u32 s',k'] 90)).cell? ((⟨wr.heap.size,0,none⟩:Addr).add j)=some u:=by
  intro j u hj
  rw [Addr.add_mid,Nat.zero_add,cell_of_row _ _ _ _ _ _ (heap_alloc_new _ _)]
  simpa using hj
theorem rule_cells (d o s:Int) (a:Option Addr) (n c:Nat) (o' s':Int) (a':Option Addr) (n' c':Nat):∀ u∈[Value.int .u8 d,Value.int .u8 o,Value.int .u32 s,Value.slice a n c,Value.int .u8 o',Value.int .u32 s',Value.slice a' n' c'],u.oneCell'=true:=by
  intro u hu
  simp at hu
  rcases hu with rfl | rfl | rfl | rfl | rfl | rfl | rfl <;> rfl
theorem Stt.rule {wa wb w':World} {rb:Nat} {x:Rd} {s:Rl.St} {does o st o' st':Int} {k k' v':Value} {l r:Rl.Ex} {xs:List Value} (h:Stt wa rb x s) (hwb:Only (fun _=>False) wa wb) (hl:Tr wa (fun b=>rb+1≤b) l (.agg #[.int .u8 o,.int .u32 st,k])) (hr:Tr wa (fun b=>rb+1≤b) r (.agg #[.int .u8 o',.int .u32 st',k']))
    (hx:wa.ownsRow (rb+1) 90 7 x.vL s.list.length xs) (hxr:Rcs wa (fun b=>rb+1≤b) s.list (fun j=>xs[j]?)) (hown:w'.ownsRow (rb+1) 90 7 v' (s.list.length+1) (xs++[.int .u8 does,.int .u8 o,.int .u32 st,k,.int .u8 o',.int .u32 st',k'])) (hg:wb.grownBy w' x.vL.ownBlock) (hn:s.list.length < 24) (hcl:Cl wa rb) :
    Stt (w'.setCell ⟨rb,6,none⟩ v') rb { x with vL:=v' } { s with list:=s.list++[⟨does,l,r⟩] }∧Fr rb x.mb wa (w'.setCell ⟨rb,6,none⟩ v')∧(rb < wa.heap.size→w'.heap[rb]?=wa.heap[rb]?):=by
  have hO:Only (fun g=>x.vL.ownBlock=some g) wa w':=(hwb.mono (fun _ h=>h.elim)).grown hg (fun k hk=>hk)
  have hOl:∀ g,x.vL.ownBlock=some g→rb+1≤g:=fun g hg=>(hx.lt g hg).1
  have htag:∀ e',e'≠90→∀ q,x.vL.ownBlock=some q→∀ cur z,wa.heap[q]?≠some (.cells cur e' z):=fun e' he q hq cur z hh=>by
    obtain ⟨_,⟨hv,_⟩ | ⟨g',cap',cur',hv,hb,hh',_⟩⟩:=hx
    · rw [hv] at hq;cases hq
    · rw [hv] at hq
      injection hq with hq
      simp only at hq
      subst hq
      rw [hh'] at hh
      injection hh with hh
      injection hh with _ h2
      exact he h2.symm
  have hset:Only (·=rb) w' (w'.setCell ⟨rb,6,none⟩ v'):=(Only.refl (·=rb) w').setCell (p:=⟨rb,6,none⟩) rfl _
  have hmb:=h.mb
  refine ⟨⟨own_only (own_onlyT h.cls hO (htag 9 (by decide))) hset (fun g hg=>by omega),own_only (own_onlyT h.trt hO (htag 3 (by decide))) hset (fun g hg=>by omega),?_,(h.mp.only hO (fun e=>by have:=hOl _ e;omega)).only hset (by omega),h.jn,h.af,h.pl,h.op,h.mb,h.c24,by simp;omega,h.p200⟩,?_,fun hrb=>hO.block rb hrb (fun e=>by have:=hOl _ e;omega)⟩
  · refine Rls.only ⟨xs++[.int .u8 does,.int .u8 o,.int .u32 st,k,.int .u8 o',.int .u32 st',k'],by rw [List.length_append];exact hown,?_⟩ hset (fun g hg=>by omega)
    have hk:∀ b,rb+1≤b→b < wa.heap.size→(∃ cs z,wa.heap[b]?=some (.cells cs 88 z))→rb+1≤b∧w'.heap[b]?=wa.heap[b]?:=fun b hb hbl hc=>⟨hb,hO.block b hbl (fun e=>by obtain ⟨cs,z,hc⟩:=hc;exact htag 88 (by decide) b e _ _ hc)⟩
    exact Rcs.snoc (r:=⟨does,l,r⟩) (hl.keepT hk) (hr.keepT hk) s.list xs (by rw [hx.1];omega) (hxr.keepT hk)
  · refine (hO.frOwn hx _).trans (hset.fr ?_ _)
    obtain ⟨cs,t,z,hcc⟩:=hcl
    exact ⟨cs,t,z,(hO.block rb (Array.getElem?_eq_some_iff.1 hcc).1 (fun e=>by have:=hOl _ e;omega)).trans hcc⟩
set_option maxRecDepth 100000 in
set_option maxHeartbeats 8000000 in
theorem rule_any (does:Int) (rb:Nat) (S:ByteArray) (x:Rd) (s:Rl.St) (ts:List Rl.Tk) (w:World) (h:In w rb S x ts) (hS:S.size≤4096) (hT:Stt w rb x s) (tx:Rl.Str) (ti:Nat) :
    Calls Tryz.prog 65 #[.pointer (some ⟨rb,0,none⟩),.agg #[.string (bs tx),.int .i64 (ti:Int)],.int .u8 does] w (lineP rb S x.mb w (Rl.rule' does ti ts s)):=by
  obtain ⟨i0,hi,hz0,hz1,hz2⟩:=info_parts info52
  have hlt:=h.lt
  have HI:Hid (In w rb S x ts):=h
  have HS:Hid (Stt w rb x s):=hT
  have hmb:x.mb≠rb:=by have:=hT.mb;omega
  obtain ⟨F,hF⟩:∃ F,F=Rl.rule' does ti ts s:=⟨_,rfl⟩
  have HF:Hid (F=Rl.rule' does ti ts s):=hF
  rw [← hF]
  obtain ⟨xs,hown,hrcs⟩:=hT.lst
  obtain ⟨aL,capL,hvL⟩:=own_form hown
  have HvL:Hid (x.vL=.slice aL s.list.length capL):=hvL
  have hl24:=hT.l24
  obtain ⟨i,hR,_,_⟩:=h
  have c6:w.cell? ⟨rb,6,none⟩=some (.slice aL s.list.length capL):=by rw [← hvL];exact hR.c6
  clear hF hT hown hrcs hvL hR
  by_cases h24:s.list.length=24
  · have HE:Hid (F=.error (24,ti)):=(by rw [HF.out];unfold Rl.rule';rw [if_pos h24]:F=.error (24,ti))
    have q:((s.list.length:Int) == 24)=true:=by simp;omega
    clear h24
    go_enter Tryz.func65,Tryz.ntmps65
    go_wp2_with (go_at_call 31;refine (throw_any 24 ti _).mono ?_;rintro e w3 ⟨rfl,rfl⟩)
    refine ⟨rfl,?_⟩
    rw [HE.out]
    exact ⟨rfl,((Only.refl (·=rb) w).alloc _).fr HI.out.cl _⟩
  · have q:((s.list.length:Int) == 24)=false:=by simp;omega
    have hEi:∀ (y:Rd) (p:Nat) (us:List Rl.Tk) (W:World),In W rb S y us→Mp W y.mb s.env→Cx s.cls.length rb y p 0→Calls Tryz.prog 85 #[.pointer (some ⟨rb,0,none⟩)] W (exprP rb S y W (Rl.either s.env s.cls.length (Rl.fuel us) 0 us p)):=fun y p us W h1 h2 h3=>either_any s.env s.cls.length rb S hS (Rl.fuel us) 0 p y us W h1 h2 h3 (by unfold Rl.fuel;omega)
    have HEi:Hid (∀ (y:Rd) (p:Nat) (us:List Rl.Tk) (W:World),In W rb S y us→Mp W y.mb s.env→Cx s.cls.length rb y p 0→Calls Tryz.prog 85 #[.pointer (some ⟨rb,0,none⟩)] W (exprP rb S y W (Rl.either s.env s.cls.length (Rl.fuel us) 0 us p))):=hEi
    have hn24:s.list.length < 24:=by omega
    clear hEi
    cases he1:Rl.either s.env s.cls.length (Rl.fuel ts) 0 ts s.places with
    | error f =>
      have T1:Hid (Rl.either s.env s.cls.length (Rl.fuel ts) 0 ts s.places=.error f):=he1
      have HE:Hid (F=.error f):=(by rw [HF.out];unfold Rl.rule';rw [if_neg h24];simp only [he1]:F=.error f)
      clear he1 h24
      go_enter Tryz.func65,Tryz.ntmps65
      go_wp2_with (go_at_call 85;have hc:=HEi.out x s.places ts (w.alloc (.cells #[.string (bs tx),.int .i64 (ti:Int)] 79)) (HI.out.alloc _) (HS.out.mp.alloc _) HS.out.cx;rw [T1.out] at hc;refine hc.mono ?_;clear hc;rintro e w1 ⟨rfl,ho1⟩)
      refine ⟨rfl,?_⟩
      rw [HE.out]
      exact ⟨rfl,(((Only.refl (·=rb) w).alloc _).trans ho1).fr HI.out.cl _⟩
    | ok r =>
      obtain ⟨ea,ts1,p1⟩:=r
      have T1:Hid (Rl.either s.env s.cls.length (Rl.fuel ts) 0 ts s.places=.ok (ea,ts1,p1)):=he1
      have hp1:=((Rl.expr_len s.env s.cls.length _).1 _ _ _ _ _ _ he1 HS.out.p200).2
      clear he1
      cases hw:Rl.want 47 ts1 with
      | error f =>
        have T2:Hid (Rl.want 47 ts1=.error f):=hw
        have HE:Hid (F=.error f):=(by rw [HF.out];unfold Rl.rule';rw [if_neg h24];simp only [T1.out,hw]:F=.error f)
        clear hw h24
        go_enter Tryz.func65,Tryz.ntmps65
        go_wp2_with (first | (go_at_call 85;have hc:=HEi.out x s.places ts (w.alloc (.cells #[.string (bs tx),.int .i64 (ti:Int)] 79)) (HI.out.alloc _) (HS.out.mp.alloc _) HS.out.cx;rw [T1.out] at hc;refine hc.mono ?_;clear hc;rintro e w1 ⟨v1,rfl,hT1,hI1,ho1⟩;obtain ⟨o,st,a,k,c,rfl⟩:=hT1.form;have HI1:Hid (In w1 rb S (x.withPl p1) ts1):=hI1;clear hI1 hT1) | (go_at_call 33;have hc:=want_any 47 rb S (x.withPl p1) ts1 _ (HI1.out.alloc (.cells #[.int .u8 o,.int .u32 st,.slice a k c] 88)) hS;rw [T2.out] at hc;refine hc.mono ?_;clear hc;rintro e w2 ⟨rfl,ho2⟩))
        refine ⟨rfl,?_⟩
        rw [HE.out]
        exact ⟨rfl,(((((Only.refl (·=rb) w).alloc _).trans ho1).alloc _).trans ho2).fr HI.out.cl _⟩
      | ok ts2 =>
        have T2:Hid (Rl.want 47 ts1=.ok ts2):=hw
        clear hw
        cases he2:Rl.either s.env s.cls.length (Rl.fuel ts2) 0 ts2 p1 with
        | error f =>
          have T3:Hid (Rl.either s.env s.cls.length (Rl.fuel ts2) 0 ts2 p1=.error f):=he2
          have HE:Hid (F=.error f):=(by rw [HF.out];unfold Rl.rule';rw [if_neg h24];simp only [T1.out,T2.out,he2]:F=.error f)
          clear he2 h24
          go_enter Tryz.func65,Tryz.ntmps65
          go_wp2_with (first | (go_at_call 33;have hc:=want_any 47 rb S (x.withPl p1) ts1 _ (HI1.out.alloc (.cells #[.int .u8 o,.int .u32 st,.slice a k c] 88)) hS;rw [T2.out] at hc;refine hc.mono ?_;clear hc;rintro e w2 ⟨rfl,hI2,ho2⟩;have HI2:Hid (In w2 rb S (x.withPl p1) ts2):=hI2;clear hI2;have HO2:Hid (Only (·=rb) w w2):=(HO1.out.alloc _).trans ho2) | (go_at_call 85;have hc:=HEi.out (x.withPl p1) p1 ts2 _ HI2.out ((HS.out.only HO2.out).mp) ((HS.out.only HO2.out).cx.withPl hp1);rw [T3.out] at hc;refine hc.mono ?_;clear hc;rintro e w3 ⟨rfl,ho3⟩) | (go_at_call 85;have hc:=HEi.out x s.places ts (w.alloc (.cells #[.string (bs tx),.int .i64 (ti:Int)] 79)) (HI.out.alloc _) (HS.out.mp.alloc _) HS.out.cx;rw [T1.out] at hc;refine hc.mono ?_;clear hc;rintro e w1 ⟨v1,rfl,hT1,hI1,ho1⟩;obtain ⟨o,st,a,k,c,rfl⟩:=hT1.form;have HI1:Hid (In w1 rb S (x.withPl p1) ts1):=hI1;clear hI1 hT1;have HO1:Hid (Only (·=rb) w w1):=((Only.refl (·=rb) w).alloc _).trans ho1))
          refine ⟨rfl,?_⟩
          rw [HE.out]
          exact ⟨rfl,(HO2.out.trans ho3).fr HI.out.cl _⟩
        | ok r =>
          obtain ⟨eb,ts3,p3⟩:=r
          have T3:Hid (Rl.either s.env s.cls.length (Rl.fuel ts2) 0 ts2 p1=.ok (eb,ts3,p3)):=he2
          have hp3:=((Rl.expr_len s.env s.cls.length _).1 _ _ _ _ _ _ he2 hp1).2
          have HE:Hid (F=.ok (ts3,{ s with places:=p3,list:=s.list++[⟨does,ea,eb⟩] })):=(by rw [HF.out];unfold Rl.rule';rw [if_neg h24];simp only [T1.out,T2.out,he2]:F=.ok (ts3,{ s with places:=p3,list:=s.list++[⟨does,ea,eb⟩] }))
          clear he2 h24
          go_enter Tryz.func65,Tryz.ntmps65
          go_wp2_with (first | (go_at_call 33;have hc:=want_any 47 rb S (x.withPl p1) ts1 _ (HI1.out.alloc (.cells #[.int .u8 o,.int .u32 st,.slice a k c] 88)) hS;rw [T2.out] at hc;refine hc.mono ?_;clear hc;rintro e w2 ⟨rfl,hI2,ho2⟩;have HI2:Hid (In w2 rb S (x.withPl p1) ts2):=hI2;clear hI2;have HO2:Hid (Only (·=rb) w w2):=(HO1.out.alloc _).trans ho2;have X2:Hid (Xb w2 w1.heap.size (.int .u8 o) (.int .u32 st) (.slice a k c)):=(Xb.new w1 _ _ _).only ho2 (by omega);have TL2:Hid (Tr w2 (fun b=>rb+1≤b) ea (.agg #[.int .u8 o,.int .u32 st,.slice a k c])):=TL1.out.later (((Only.refl (·=rb) w1).alloc _).trans ho2) (fun b hb=>by omega) (fun b hb=>hb);have hl2:=HO2.out.size) | (go_at_call 85;have hc:=HEi.out (x.withPl p1) p1 ts2 _ HI2.out ((HS.out.only HO2.out).mp) ((HS.out.only HO2.out).cx.withPl hp1);rw [T3.out] at hc;refine hc.mono ?_;clear hc;rintro e w3 ⟨v3,rfl,hT3,hI3,ho3⟩;obtain ⟨o',st',a',k',c',rfl⟩:=hT3.form;have HI3:Hid (In w3 rb S ((x.withPl p1).withPl p3) ts3):=hI3;have TR3:Hid (Tr w3 (fun b=>rb+1≤b) eb (.agg #[.int .u8 o',.int .u32 st',.slice a' k' c'])):=hT3.keep (fun b hb _=>⟨by omega,rfl⟩);clear hI3 hT3;have HO3:Hid (Only (·=rb) w w3):=HO2.out.trans ho3;have X3:Hid (Xb w3 w1.heap.size (.int .u8 o) (.int .u32 st) (.slice a k c)):=X2.out.only ho3 (by omega);have TL3:Hid (Tr w3 (fun b=>rb+1≤b) ea (.agg #[.int .u8 o,.int .u32 st,.slice a k c])):=TL2.out.later ho3 (fun b hb=>by omega) (fun b hb=>hb);have hl3:=X3.out.lt) | (go_at_call 85;have hc:=HEi.out x s.places ts (w.alloc (.cells #[.string (bs tx),.int .i64 (ti:Int)] 79)) (HI.out.alloc _) (HS.out.mp.alloc _) HS.out.cx;rw [T1.out] at hc;refine hc.mono ?_;clear hc;rintro e w1 ⟨v1,rfl,hT1,hI1,ho1⟩;obtain ⟨o,st,a,k,c,rfl⟩:=hT1.form;have HI1:Hid (In w1 rb S (x.withPl p1) ts1):=hI1;have TL1:Hid (Tr w1 (fun b=>rb+1≤b) ea (.agg #[.int .u8 o,.int .u32 st,.slice a k c])):=hT1.keep (fun b hb _=>⟨by simp at hb;omega,rfl⟩);clear hI1 hT1;have HO1:Hid (Only (·=rb) w w1):=((Only.refl (·=rb) w).alloc _).trans ho1;have hl1:=HO1.out.size))
          obtain ⟨i6,hR6,hs6⟩:=(HI3.out.alloc (.cells #[.int .u8 o',.int .u32 st',.slice a' k' c'] 88)).drew
          have HR0:Hid (Rdr (w3.alloc (.cells #[.int .u8 o',.int .u32 st',.slice a' k' c'] 88)).drew rb S (i6:Int) (x.withPl p3)):=hR6
          have Hs6:Hid (Rl.Strm S.data.toList i6 ts3∧i6≤S.size):=hs6
          have c6':(w3.alloc (.cells #[.int .u8 o',.int .u32 st',.slice a' k' c'] 88)).drew.cell? ⟨rb,6,none⟩=some (.slice aL s.list.length capL):=by rw [← HvL.out];exact hR6.c6
          have c6'':((w3.alloc (.cells #[.int .u8 o',.int .u32 st',.slice a' k' c'] 88)).drew.alloc (.cells #[.int .u8 does,.int .u8 o,.int .u32 st,.slice a k c,.int .u8 o',.int .u32 st',.slice a' k' c'] 90)).cell? ⟨rb,6,none⟩=some (.slice aL s.list.length capL):=by rw [← HvL.out];exact (hR6.alloc _).c6
          have c6''':((w3.alloc (.cells #[.int .u8 o',.int .u32 st',.slice a' k' c'] 88)).alloc (.cells #[.int .u8 does,.int .u8 o,.int .u32 st,.slice a k c,.int .u8 o',.int .u32 st',.slice a' k' c'] 90)).cell? ⟨rb,6,none⟩=some (.slice aL s.list.length capL):=c6''
          have HS0:Hid (Stt (w3.alloc (.cells #[.int .u8 o',.int .u32 st',.slice a' k' c'] 88)).drew rb (x.withPl p3) { s with places:=p3 }):=(HS.out.only ((HO3.out.alloc (.cells #[.int .u8 o',.int .u32 st',.slice a' k' c'] 88)).drew)).withPl hp3
          have XL0:Hid (Xb (w3.alloc (.cells #[.int .u8 o',.int .u32 st',.slice a' k' c'] 88)).drew w1.heap.size (.int .u8 o) (.int .u32 st) (.slice a k c)):=X3.out.alloc _
          have XR0:Hid (Xb (w3.alloc (.cells #[.int .u8 o',.int .u32 st',.slice a' k' c'] 88)).drew w3.heap.size (.int .u8 o') (.int .u32 st') (.slice a' k' c')):=Xb.new w3 _ _ _
          have TL0:Hid (Tr (w3.alloc (.cells #[.int .u8 o',.int .u32 st',.slice a' k' c'] 88)).drew (fun b=>rb+1≤b) ea (.agg #[.int .u8 o,.int .u32 st,.slice a k c])):=TL3.out.later (((Only.refl (·=rb) w3).alloc _).drew) (fun b hb=>by omega) (fun b hb=>hb)
          have TR0:Hid (Tr (w3.alloc (.cells #[.int .u8 o',.int .u32 st',.slice a' k' c'] 88)).drew (fun b=>rb+1≤b) eb (.agg #[.int .u8 o',.int .u32 st',.slice a' k' c'])):=TR3.out.later (((Only.refl (·=rb) w3).alloc _).drew) (fun b hb=>by omega) (fun b hb=>hb)
          obtain ⟨xs,hown0,hrcs0⟩:=HS0.out.lst
          have Hown0:Hid ((w3.alloc (.cells #[.int .u8 o',.int .u32 st',.slice a' k' c'] 88)).drew.ownsRow (rb+1) 90 7 (.slice aL s.list.length capL) s.list.length xs):=by rw [← HvL.out];exact hown0
          have Hrcs0:Hid (Rcs (w3.alloc (.cells #[.int .u8 o',.int .u32 st',.slice a' k' c'] 88)).drew (fun b=>rb+1≤b) s.list (fun j=>xs[j]?)):=hrcs0
          have Hnews:Hid (∀ j u,[Value.int .u8 does,Value.int .u8 o,Value.int .u32 st,Value.slice a k c,Value.int .u8 o',Value.int .u32 st',Value.slice a' k' c'][j]?=some u→((w3.alloc (.cells #[.int .u8 o',.int .u32 st',.slice a' k' c'] 88)).drew.alloc (.cells #[.int .u8 does,.int .u8 o,.int .u32 st,.slice a k c,.int .u8 o',.int .u32 st',.slice a' k' c'] 90)).cell? ((⟨w3.heap.size+1,0,none⟩:Addr).add j)=some u):=(by
            have h:=rule_news (w3.alloc (.cells #[.int .u8 o',.int .u32 st',.slice a' k' c'] 88)).drew does o st (.slice a k c) o' st' (.slice a' k' c')
            rw [show (w3.alloc (.cells #[.int .u8 o',.int .u32 st',.slice a' k' c'] 88)).drew.heap.size=w3.heap.size+1 from Array.size_push _] at h
            exact h:∀ j u,[Value.int .u8 does,Value.int .u8 o,Value.int .u32 st,Value.slice a k c,Value.int .u8 o',Value.int .u32 st',Value.slice a' k' c'][j]?=some u→((w3.alloc (.cells #[.int .u8 o',.int .u32 st',.slice a' k' c'] 88)).drew.alloc (.cells #[.int .u8 does,.int .u8 o,.int .u32 st,.slice a k c,.int .u8 o',.int .u32 st',.slice a' k' c'] 90)).cell? ((⟨w3.heap.size+1,0,none⟩:Addr).add j)=some u)
          have HSa:Hid (Xb ((w3.alloc (.cells #[.int .u8 o',.int .u32 st',.slice a' k' c'] 88)).drew.alloc (.cells #[.int .u8 does,.int .u8 o,.int .u32 st,.slice a k c,.int .u8 o',.int .u32 st',.slice a' k' c'] 90)) w1.heap.size (.int .u8 o) (.int .u32 st) (.slice a k c)∧Xb ((w3.alloc (.cells #[.int .u8 o',.int .u32 st',.slice a' k' c'] 88)).drew.alloc (.cells #[.int .u8 does,.int .u8 o,.int .u32 st,.slice a k c,.int .u8 o',.int .u32 st',.slice a' k' c'] 90)) w3.heap.size (.int .u8 o') (.int .u32 st') (.slice a' k' c')):=⟨XL0.out.alloc _,XR0.out.alloc _⟩
          clear hR6 hs6 hown0 hrcs0
          refine wp_region_held_drew (S:=fun w'=>Xb w' w1.heap.size (.int .u8 o) (.int .u32 st) (.slice a k c)∧Xb w' w3.heap.size (.int .u8 o') (.int .u32 st') (.slice a' k' c')) (by kernel_rfl) ⟨XL0.out,XR0.out⟩ (fun hHeld=>?_)
          refine wpAnyH_take (i:=0) (v:=Value.pointer (some ⟨rb,0,none⟩)) rfl (by kernel_rfl) (by kernel_rfl) (by kernel_rfl) (fun _ _ _ h=>h) (Or.inl ⟨by rfl,fun w hSw=>by first | (go_simp;done) | go_simp⟩) (by assumption) ?_
          simp only [Act.put,List.setIfInBounds_toArray,List.set_cons_zero,List.set_cons_succ]
          refine wpAnyH_take (i:=1) (v:=Value.pointer (some ⟨rb,0,none⟩)) rfl (by kernel_rfl) (by kernel_rfl) (by kernel_rfl) (fun _ _ _ h=>h) (Or.inl ⟨by rfl,fun w hSw=>by first | (go_simp;done) | go_simp⟩) (by assumption) ?_
          simp only [Act.put,List.setIfInBounds_toArray,List.set_cons_zero,List.set_cons_succ]
          refine wpAnyH_take (i:=2) (v:=Value.pointer (some ⟨rb,0,none⟩)) rfl (by kernel_rfl) (by kernel_rfl) (by kernel_rfl) (fun _ _ _ h=>h) (Or.inl ⟨by rfl,fun w hSw=>by first | (go_simp;done) | go_simp⟩) (by assumption) ?_
          simp only [Act.put,List.setIfInBounds_toArray,List.set_cons_zero,List.set_cons_succ]
          refine wpAnyH_take (i:=3) (v:=Value.pointer (some ⟨rb,2,none⟩)) rfl (by kernel_rfl) (by kernel_rfl) (by kernel_rfl) (fun _ _ _ h=>h) (Or.inl ⟨by rfl,fun w hSw=>by first | (go_simp;done) | go_simp⟩) (by assumption) ?_
          simp only [Act.put,List.setIfInBounds_toArray,List.set_cons_zero,List.set_cons_succ]
          refine wpAnyH_take (i:=4) (v:=Value.pointer (some ⟨rb,6,none⟩)) rfl (by kernel_rfl) (by kernel_rfl) (by kernel_rfl) (fun _ _ _ h=>h) (Or.inl ⟨by rfl,fun w hSw=>by first | (go_simp;done) | go_simp⟩) (by assumption) ?_
          simp only [Act.put,List.setIfInBounds_toArray,List.set_cons_zero,List.set_cons_succ]
          refine wpAnyH_take (i:=6) (v:=Value.int .u8 does) rfl (by kernel_rfl) (by kernel_rfl) (by kernel_rfl) (fun _ _ _ h=>h) (Or.inl ⟨by rfl,fun w hSw=>by first | (go_simp;done) | go_simp⟩) (by assumption) ?_
          simp only [Act.put,List.setIfInBounds_toArray,List.set_cons_zero,List.set_cons_succ]
          refine wpAnyH_take (i:=7) (v:=Value.agg #[.int .u8 o,.int .u32 st,.slice a k c]) rfl (by kernel_rfl) (by kernel_rfl) (by kernel_rfl) (fun _ _ _ h=>h) (Or.inl ⟨by rfl,fun w hSw=>by obtain ⟨h1,h2⟩:=hSw;have q0:=h1.c0;have q1:=h1.c1;have q2:=h1.c2;have q3:=h2.c0;have q4:=h2.c1;have q5:=h2.c2;clear h1 h2;go_simp⟩) (by assumption) ?_
          simp only [Act.put,List.setIfInBounds_toArray,List.set_cons_zero,List.set_cons_succ]
          refine wpAnyH_take (i:=8) (v:=Value.agg #[.int .u8 o',.int .u32 st',.slice a' k' c']) rfl (by kernel_rfl) (by kernel_rfl) (by kernel_rfl) (fun _ _ _ h=>h) (Or.inl ⟨by rfl,fun w hSw=>by obtain ⟨h1,h2⟩:=hSw;have q0:=h1.c0;have q1:=h1.c1;have q2:=h1.c2;have q3:=h2.c0;have q4:=h2.c1;have q5:=h2.c2;clear h1 h2;go_simp⟩) (by assumption) ?_
          simp only [Act.put,List.setIfInBounds_toArray,List.set_cons_zero,List.set_cons_succ]
          refine wpAnyH_take (i:=9) (v:=Value.agg #[.int .u8 does,.int .u8 o,.int .u32 st,.slice a k c,.int .u8 o',.int .u32 st',.slice a' k' c']) rfl (by kernel_rfl) (by kernel_rfl) (by kernel_rfl) (fun _ _ _ h=>h) (Or.inl ⟨by rfl,fun w hSw=>by first | (go_simp;done) | go_simp⟩) (by assumption) ?_
          simp only [Act.put,List.setIfInBounds_toArray,List.set_cons_zero,List.set_cons_succ]
          refine wpAnyH_ready (rs:=[5,10]) (by kernel_rfl) (by simp) ?_
          refine AllReadyH.cons rfl (fun K hK=>?_) (AllReadyH.cons rfl (fun K hK=>?_) AllReadyH.nil)
          · rw [if_pos (by rfl)]
            go_simp
            refine hK.out _ _ ⟨XL0.out,XR0.out⟩ (fun hHeld2=>?_)
            clear hK
            refine wpAnyH_ready (rs:=[10]) (by kernel_rfl) (by simp) ?_
            refine AllReadyH.cons rfl (fun K hK=>?_) AllReadyH.nil
            rw [if_pos (by rfl)]
            go_simp
            refine hK.out _ _ HSa.out (fun hHeld3=>?_)
            clear hK
            refine wpAnyH_ready (rs:=[11]) (by kernel_rfl) (by simp) ?_
            refine AllReadyH.cons rfl (fun K hK=>?_) AllReadyH.nil
            refine step_of_wp rfl (wp_append_at _ _ _ 43 rfl (rb+1) 90 i0 (.agg #[.int .u8 0,.int .u8 0,.int .u32 0,.slice none 0 0,.int .u8 0,.int .u32 0,.slice none 0 0]) 7 72 Tryz.underlying43 hi hz0 hz1 hz2 rfl (by decide) (.slice aL s.list.length capL) s.list.length xs rfl (Hown0.out.alloc _) ⟨w3.heap.size+1,0,none⟩ 1 1 [.int .u8 does,.int .u8 o,.int .u32 st,.slice a k c,.int .u8 o',.int .u32 st',.slice a' k' c'] rfl rfl Hnews.out (rule_cells _ _ _ _ _ _ _ _ _ _ _) (by unfold maxLen;omega) (by omega) (by simp;omega) ?_)
            intro v5 w5 hown5 hg5
            obtain ⟨gv,capv,rfl,hgb5,hgl5,hgc5,_⟩:=row_form hown5 (by omega)
            have hg5':((w3.alloc (.cells #[.int .u8 o',.int .u32 st',.slice a' k' c'] 88)).drew.alloc (.cells #[.int .u8 does,.int .u8 o,.int .u32 st,.slice a k c,.int .u8 o',.int .u32 st',.slice a' k' c'] 90)).grownBy w5 (x.withPl p3).vL.ownBlock:=by rw [show (x.withPl p3).vL=x.vL from rfl,HvL.out];exact hg5
            obtain ⟨hSt5,hLo5,hrb5⟩:=Stt.rule (does:=does) HS0.out ((Only.refl (fun _=>False) _).alloc (.cells #[.int .u8 does,.int .u8 o,.int .u32 st,.slice a k c,.int .u8 o',.int .u32 st',.slice a' k' c'] 90)) TL0.out TR0.out (by rw [show (x.withPl p3).vL=x.vL from rfl,HvL.out];exact Hown0.out) Hrcs0.out hown5 hg5' hn24 HR0.out.cl
            have hR5:Rdr w5 rb S (i6:Int) (x.withPl p3):=(hrb5 HR0.out.lt).trans HR0.out
            have e6:w5.cell? ⟨rb,6,none⟩=some (.slice aL s.list.length capL):=by rw [← HvL.out];exact hR5.c6
            have g6:=hR5.fz 6
            have hXL5:∀ g o1 s1 k1,Xb (w3.alloc (.cells #[.int .u8 o',.int .u32 st',.slice a' k' c'] 88)).drew g o1 s1 k1→Xb w5 g o1 s1 k1:=fun g o1 s1 k1 hX=>by
              have hl:=hX.lt
              refine (hg5.block g (by simp only [World.alloc,Array.size_push,World.drew] at hl ⊢;omega) (fun e=>?_)).trans ((Below.heap_alloc _ _ _ hl).trans hX)
              obtain ⟨_,⟨hv,_⟩ | ⟨g',cap',cur',hv,hb,hh',_⟩⟩:=Hown0.out
              · rw [hv] at e;cases e
              · rw [hv] at e
                injection e with e
                simp only at e
                subst e
                rw [show (w3.alloc (.cells #[.int .u8 o',.int .u32 st',.slice a' k' c'] 88)).drew.heap[g]?=_ from hX] at hh'
                injection hh' with hh'
                injection hh' with _ h2
                exact absurd h2 (by decide)
            refine hK.out _ _ ⟨hXL5 _ _ _ _ XL0.out,hXL5 _ _ _ _ XR0.out⟩ (fun hHeldA=>?_)
            clear hK
            try simp only [Act.put,List.setIfInBounds_toArray,List.set_cons_zero,List.set_cons_succ]
            refine wpAnyH_take (i:=12) (v:=Value.pointer (some ⟨rb,0,none⟩)) rfl (by kernel_rfl) (by kernel_rfl) (by kernel_rfl) (fun _ _ _ h=>h) (Or.inl ⟨by rfl,fun w hSw=>by first | (go_simp;done) | go_simp⟩) (by assumption) ?_
            simp only [Act.put,List.setIfInBounds_toArray,List.set_cons_zero,List.set_cons_succ]
            refine wpAnyH_take (i:=13) (v:=Value.pointer (some ⟨rb,2,none⟩)) rfl (by kernel_rfl) (by kernel_rfl) (by kernel_rfl) (fun _ _ _ h=>h) (Or.inl ⟨by rfl,fun w hSw=>by first | (go_simp;done) | go_simp⟩) (by assumption) ?_
            simp only [Act.put,List.setIfInBounds_toArray,List.set_cons_zero,List.set_cons_succ]
            refine wpAnyH_take (i:=14) (v:=Value.pointer (some ⟨rb,6,none⟩)) rfl (by kernel_rfl) (by kernel_rfl) (by kernel_rfl) (fun _ _ _ h=>h) (Or.inl ⟨by rfl,fun w hSw=>by first | (go_simp;done) | go_simp⟩) (by assumption) ?_
            simp only [Act.put,List.setIfInBounds_toArray,List.set_cons_zero,List.set_cons_succ]
            refine wpAnyH_ready (rs:=[15]) (by kernel_rfl) (by simp) ?_
            refine AllReadyH.cons rfl (fun K hK=>?_) AllReadyH.nil
            rw [if_pos (by rfl)]
            go_simp
            refine hK.out _ _ ⟨(hXL5 _ _ _ _ XL0.out).only (P:=(·=rb)) ((Only.refl (·=rb) w5).setCell (p:=⟨rb,6,none⟩) rfl _) (by omega),(hXL5 _ _ _ _ XR0.out).only (P:=(·=rb)) ((Only.refl (·=rb) w5).setCell (p:=⟨rb,6,none⟩) rfl _) (by omega)⟩ (fun hHeldB=>?_)
            clear hK
            refine wpAnyH_done (by kernel_rfl) ?_ _
            clear hHeldA hHeldB
            go_wp2_with fail
            go_end0
            rw [HE.out]
            exact ⟨rfl,{ x.withPl p3 with vL:=.slice (some ⟨gv,0,none⟩) (s.list.length+1) capv },rfl,⟨i6,hR5.set6 _,Hs6.out⟩,hSt5,(((HO3.out.alloc _).drew).fr HI.out.cl _).trans hLo5⟩
          · rw [if_pos (by rfl)]
            go_simp
            refine hK.out _ _ HSa.out (fun hHeld2=>?_)
            clear hK
            refine wpAnyH_ready (rs:=[5]) (by kernel_rfl) (by simp) ?_
            refine AllReadyH.cons rfl (fun K hK=>?_) AllReadyH.nil
            rw [if_pos (by rfl)]
            go_simp
            refine hK.out _ _ HSa.out (fun hHeld3=>?_)
            clear hK
            refine wpAnyH_ready (rs:=[11]) (by kernel_rfl) (by simp) ?_
            refine AllReadyH.cons rfl (fun K hK=>?_) AllReadyH.nil
            refine step_of_wp rfl (wp_append_at _ _ _ 43 rfl (rb+1) 90 i0 (.agg #[.int .u8 0,.int .u8 0,.int .u32 0,.slice none 0 0,.int .u8 0,.int .u32 0,.slice none 0 0]) 7 72 Tryz.underlying43 hi hz0 hz1 hz2 rfl (by decide) (.slice aL s.list.length capL) s.list.length xs rfl (Hown0.out.alloc _) ⟨w3.heap.size+1,0,none⟩ 1 1 [.int .u8 does,.int .u8 o,.int .u32 st,.slice a k c,.int .u8 o',.int .u32 st',.slice a' k' c'] rfl rfl Hnews.out (rule_cells _ _ _ _ _ _ _ _ _ _ _) (by unfold maxLen;omega) (by omega) (by simp;omega) ?_)
            intro v5 w5 hown5 hg5
            obtain ⟨gv,capv,rfl,hgb5,hgl5,hgc5,_⟩:=row_form hown5 (by omega)
            have hg5':((w3.alloc (.cells #[.int .u8 o',.int .u32 st',.slice a' k' c'] 88)).drew.alloc (.cells #[.int .u8 does,.int .u8 o,.int .u32 st,.slice a k c,.int .u8 o',.int .u32 st',.slice a' k' c'] 90)).grownBy w5 (x.withPl p3).vL.ownBlock:=by rw [show (x.withPl p3).vL=x.vL from rfl,HvL.out];exact hg5
            obtain ⟨hSt5,hLo5,hrb5⟩:=Stt.rule (does:=does) HS0.out ((Only.refl (fun _=>False) _).alloc (.cells #[.int .u8 does,.int .u8 o,.int .u32 st,.slice a k c,.int .u8 o',.int .u32 st',.slice a' k' c'] 90)) TL0.out TR0.out (by rw [show (x.withPl p3).vL=x.vL from rfl,HvL.out];exact Hown0.out) Hrcs0.out hown5 hg5' hn24 HR0.out.cl
            have hR5:Rdr w5 rb S (i6:Int) (x.withPl p3):=(hrb5 HR0.out.lt).trans HR0.out
            have e6:w5.cell? ⟨rb,6,none⟩=some (.slice aL s.list.length capL):=by rw [← HvL.out];exact hR5.c6
            have g6:=hR5.fz 6
            have hXL5:∀ g o1 s1 k1,Xb (w3.alloc (.cells #[.int .u8 o',.int .u32 st',.slice a' k' c'] 88)).drew g o1 s1 k1→Xb w5 g o1 s1 k1:=fun g o1 s1 k1 hX=>by
              have hl:=hX.lt
              refine (hg5.block g (by simp only [World.alloc,Array.size_push,World.drew] at hl ⊢;omega) (fun e=>?_)).trans ((Below.heap_alloc _ _ _ hl).trans hX)
              obtain ⟨_,⟨hv,_⟩ | ⟨g',cap',cur',hv,hb,hh',_⟩⟩:=Hown0.out
              · rw [hv] at e;cases e
              · rw [hv] at e
                injection e with e
                simp only at e
                subst e
                rw [show (w3.alloc (.cells #[.int .u8 o',.int .u32 st',.slice a' k' c'] 88)).drew.heap[g]?=_ from hX] at hh'
                injection hh' with hh'
                injection hh' with _ h2
                exact absurd h2 (by decide)
            refine hK.out _ _ ⟨hXL5 _ _ _ _ XL0.out,hXL5 _ _ _ _ XR0.out⟩ (fun hHeldA=>?_)
            clear hK
            try simp only [Act.put,List.setIfInBounds_toArray,List.set_cons_zero,List.set_cons_succ]
            refine wpAnyH_take (i:=12) (v:=Value.pointer (some ⟨rb,0,none⟩)) rfl (by kernel_rfl) (by kernel_rfl) (by kernel_rfl) (fun _ _ _ h=>h) (Or.inl ⟨by rfl,fun w hSw=>by first | (go_simp;done) | go_simp⟩) (by assumption) ?_
            simp only [Act.put,List.setIfInBounds_toArray,List.set_cons_zero,List.set_cons_succ]
            refine wpAnyH_take (i:=13) (v:=Value.pointer (some ⟨rb,2,none⟩)) rfl (by kernel_rfl) (by kernel_rfl) (by kernel_rfl) (fun _ _ _ h=>h) (Or.inl ⟨by rfl,fun w hSw=>by first | (go_simp;done) | go_simp⟩) (by assumption) ?_
            simp only [Act.put,List.setIfInBounds_toArray,List.set_cons_zero,List.set_cons_succ]
            refine wpAnyH_take (i:=14) (v:=Value.pointer (some ⟨rb,6,none⟩)) rfl (by kernel_rfl) (by kernel_rfl) (by kernel_rfl) (fun _ _ _ h=>h) (Or.inl ⟨by rfl,fun w hSw=>by first | (go_simp;done) | go_simp⟩) (by assumption) ?_
            simp only [Act.put,List.setIfInBounds_toArray,List.set_cons_zero,List.set_cons_succ]
            refine wpAnyH_ready (rs:=[15]) (by kernel_rfl) (by simp) ?_
            refine AllReadyH.cons rfl (fun K hK=>?_) AllReadyH.nil
            rw [if_pos (by rfl)]
            go_simp
            refine hK.out _ _ ⟨(hXL5 _ _ _ _ XL0.out).only (P:=(·=rb)) ((Only.refl (·=rb) w5).setCell (p:=⟨rb,6,none⟩) rfl _) (by omega),(hXL5 _ _ _ _ XR0.out).only (P:=(·=rb)) ((Only.refl (·=rb) w5).setCell (p:=⟨rb,6,none⟩) rfl _) (by omega)⟩ (fun hHeldB=>?_)
            clear hK
            refine wpAnyH_done (by kernel_rfl) ?_ _
            clear hHeldA hHeldB
            go_wp2_with fail
            go_end0
            rw [HE.out]
            exact ⟨rfl,{ x.withPl p3 with vL:=.slice (some ⟨gv,0,none⟩) (s.list.length+1) capv },rfl,⟨i6,hR5.set6 _,Hs6.out⟩,hSt5,(((HO3.out.alloc _).drew).fr HI.out.cl _).trans hLo5⟩
end Go.Proofs.YtchaoonefiamdaaGreatDoor
