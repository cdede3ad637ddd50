/- Lines2 -/
import Derived.Test.YtdlabakleldgaaaGreatDoorZ00
import Derived.Test.YtdlabakleldgaaaGreatDoorZ12
set_option linter.unusedVariables false
set_option linter.unusedSimpArgs false
set_option maxRecDepth 100000
set_option maxHeartbeats 8000000
namespace Go.Proofs.YtdlabakleldgaaaGreatDoor
open Go.RowKit Go.Maps
theorem dS {w w':World} {base e size n:Nat} {v:Value} {xs:List Value} {P:Nat→Prop} (h:w.ownsRow base e size v n xs) (ho:Only P w w') (hP:∀g,P g→∀cur z,w.heap[g]?≠some (.cells cur e z)):w'.ownsRow base e size v n xs:=by
 obtain⟨hl,h | ⟨g,cap,cur,hv,hb,hh,h1⟩⟩:=h
 ·exact⟨hl,Or.inl h⟩
 ·exact⟨hl,Or.inr ⟨g,cap,cur,hv,hb,(ho.block g (Array.getElem?_eq_some_iff.1 hh).1 (fun hp=>hP g hp _ _ hh)).trans hh,h1⟩⟩
theorem BI.Jy {w w':World} {B:Nat} {v:Value} {l:List Rl.fD} {P:Nat→Prop} (h:BI w B v l) (ho:Only P w w') (MF:∀g,P g→∀cur z,w.heap[g]?≠some (.cells cur 119 z)) (h50:∀g,P g→∀cur z,w.heap[g]?≠some (.cells cur 117 z)):BI w' B v l:=by
 obtain⟨xs,h1,h2⟩:=h
 exact⟨xs,dS h1 ho MF,h2.fu (fun b hb hl hc=>⟨hb,ho.block b hl (fun hp=>by obtain⟨cs,z,hc⟩:=hc;exact h50 b hp _ _ hc)⟩)⟩
theorem fP {w:World} {base e n g cap k:Nat} {xs:List Value} (h:w.ownsRow base e 1 (.slice (some ⟨g,0,none⟩) n cap) n xs) (hk:k < n) (u:Value):(w.setCell ⟨g,k,none⟩ u).ownsRow base e 1 (.slice (some ⟨g,0,none⟩) n cap) n (xs.set k u):=by
 obtain⟨hl,⟨hv,_⟩ | ⟨g',cap',cur,hv,hb,hh,h1,h2,h3,h4⟩⟩:=h
 ·cases hv
 ·injection hv with e1 _ e2
  injection e1 with e1
  injection e1 with e1
  subst e1 e2
  refine⟨by rw [List.length_set];exact hl,Or.inr ⟨g,cap,_,rfl,hb,aa hh u,h1,h2,by simpa using h3,?_⟩⟩
  rw [←h4]
  apply List.ext_getElem?
  intro j
  rw [List.getElem?_take,List.getElem?_set]
  simp only [Array.toList_setIfInBounds,List.getElem?_set,List.getElem?_take,Array.length_toList,List.length_take]
  by_cases e:k=j
  ·subst e
   have:k < cur.size:=by omega
   simp [hk,this]
   omega
  ·simp [e]
theorem Eu {w:World} {base e size n:Nat} {v:Value} {xs:List Value} (h:w.ownsRow base e size v n xs) (hn:0 < n):∃g cap cur,v=.slice (some ⟨g,0,none⟩) n cap∧base≤g∧w.heap[g]?=some (.cells cur e (0,0)):=by
 obtain⟨hl,⟨hv,h0⟩ | ⟨g',cap',cur,hv,hb,hh,h1,h2,h3,h4⟩⟩:=h
 ·omega
 ·exact⟨g',cap',cur,hv,hb,hh⟩
theorem ints_set (l:List Int) (k:Nat) (m:Int):ints (l.set k m)=(ints l).set k (.int .i64 m):=by unfold ints;rw [List.map_set]
theorem Jz {w:World} {base e n g cap k:Nat} {xs:List Value} (h:w.ownsRow base e 1 (.slice (some ⟨g,0,none⟩) n cap) n xs) (hk:k < n):∃old,w.cell? ⟨g,k,none⟩=some old∧w.frozen? ⟨g,k,none⟩=false:=by
 obtain⟨hl,⟨hv,_⟩ | ⟨g',cap',cur,hv,hb,hh,h1,h2,h3,h4⟩⟩:=h
 ·cases hv
 ·injection hv with e1 _ e2
  injection e1 with e1
  injection e1 with e1
  subst e1 e2
  have hc:k < cur.size:=by omega
  exact⟨cur[k],(cell_of_row _ _ _ _ _ _ hh).trans (Array.getElem?_eq_getElem hc),by simp [World.frozen?,hh]⟩
theorem FW (rb:Nat) (S:ByteArray) (x:Rd) (s:Rl.St) (p:Value) (ts:List Rl.Tk) (w:World) (h:In w rb S x ts) (hS:S.size≤4096) (hT:eF w rb x s) (tx:Rl.Str) (ti:Int) (hp:p=.agg #[.string (bs tx),.int .i64 ti]):
  Calls Tryz.prog 67 #[.pointer (some ⟨rb,0,none⟩),p] w (pq rb S x.mb w (Rl.dV ts s)):=by
 subst hp
 have hlt:=h.lt
 have HI:=zH h
 have HS:=zH hT
 have hmb:x.mb≠rb:=by have:=hT.mb;omega
 obtain⟨F,hF⟩:∃F,F=Rl.dV ts s:=⟨_,rfl⟩
 have HF:=zH hF
 rw [←hF]
 clear hT hF h
 cases hn1:Rl.placeOf s.cls ts with
 | error f=>
  have T1:=zH hn1
  have HE:Hid (F=.error f):=(by rw [HF.out];unfold Rl.dV;simp only [hn1]:F=.error f)
  clear hn1
  go_enter Tryz.func67,Tryz.ntmps67
  go_wp2_with (go_at_call 89;have hc:=fZ s.cls rb S x ts _ (HI.out.alloc (.cells #[.string (bs tx),.int .i64 ti] 108)) hS (HS.out.cls.alloc _) HS.out.c24;rw [T1.out] at hc;refine hc.mono ?_;clear hc;rintro e w1 ⟨rfl,ho1⟩)
  refine⟨rfl,?_⟩
  rw [HE.out]
  exact⟨rfl,(((Only.refl (·=rb) w).alloc _).trans ho1).fr HI.out.cl _⟩
 | ok r=>
  obtain⟨k,bK⟩:=r
  have T1:=zH hn1
  have hkl:=Ju hn1
  clear hn1
  cases hw:Rl.want 61 bK with
  | error f=>
   have T2:=zH hw
   have HE:Hid (F=.error f):=(by rw [HF.out];unfold Rl.dV;simp only [T1.out,hw]:F=.error f)
   clear hw
   go_enter Tryz.func67,Tryz.ntmps67
   go_wp2_with (first |(go_at_call 89;have hc:=fZ s.cls rb S x ts _ (HI.out.alloc (.cells #[.string (bs tx),.int .i64 ti] 108)) hS (HS.out.cls.alloc _) HS.out.c24;rw [T1.out] at hc;refine hc.mono ?_;clear hc;rintro e w1 ⟨rfl,hI1,ho1⟩;have HI1:=zH hI1;clear hI1) |(go_at_call 55;have hc:=aU 61 rb S x bK _ HI1.out hS;rw [T2.out] at hc;refine hc.mono ?_;clear hc;rintro e w2 ⟨rfl,ho2⟩))
   refine⟨rfl,?_⟩
   rw [HE.out]
   exact⟨rfl,((((Only.refl (·=rb) w).alloc _).trans ho1).trans ho2).fr HI.out.cl _⟩
  | ok dC=>
   have T2:=zH hw
   clear hw
   obtain⟨vT,vw⟩:∃vT,vT=x.vT:=⟨_,rfl⟩
   have HV:=zH vw
   cases hn2:Rl.placeOf s.cls dC with
   | error f=>
    have T3:=zH hn2
    have HE:Hid (F=.error f):=(by rw [HF.out];unfold Rl.dV;simp only [T1.out,T2.out,hn2]:F=.error f)
    clear hn2 vw
    go_enter Tryz.func67,Tryz.ntmps67
    go_wp2_with (first |(go_at_call 89;have hc:=fZ s.cls rb S x ts _ (HI.out.alloc (.cells #[.string (bs tx),.int .i64 ti] 108)) hS (HS.out.cls.alloc _) HS.out.c24;rw [T1.out] at hc;refine hc.mono ?_;clear hc;rintro e w1 ⟨rfl,hI1,ho1⟩;have HI1:=zH hI1;clear hI1) |(go_at_call 55;have hc:=aU 61 rb S x bK _ HI1.out hS;rw [T2.out] at hc;refine hc.mono ?_;clear hc;rintro e w2 ⟨rfl,hI2,ho2⟩;have HI2:=zH hI2;obtain⟨i2,hR2,_,_⟩:=hI2;have d5:w2.cell? ⟨rb,5,none⟩=some vT:=(by rw [HV.out];exact hR2.c5);clear hR2;have aK:Hid (Only (·=rb) w w2):=(((Only.refl (·=rb) w).alloc _).trans ho1).trans ho2;have HS2:Hid (eF w2 rb x s):=HS.out.only aK.out))
    have d5':w2.drew.cell? ⟨rb,5,none⟩=some vT:=d5
    refine wp_region_held_drew (S:=fun w'=>w'.cell? ⟨rb,5,none⟩=some vT) (by kernel_rfl) d5' (fun hHeld=>?_)
    refine bQ (i:=0) (v:=Value.pointer (some ⟨rb,0,none⟩)) rfl ?_
    simp only [Act.put,zA,zB,zC]
    refine bQ (i:=1) (v:=Value.pointer (some ⟨rb,0,none⟩)) rfl ?_
    simp only [Act.put,zA,zB,zC]
    refine bQ (i:=2) (v:=Value.pointer (some ⟨rb,2,none⟩)) rfl ?_
    simp only [Act.put,zA,zB,zC]
    refine bQ (i:=3) (v:=Value.pointer (some ⟨rb,5,none⟩)) rfl ?_
    simp only [Act.put,zA,zB,zC]
    refine bQ (i:=4) (v:=vT) rfl ?_
    simp only [Act.put,zA,zB,zC]
    refine bQ (i:=5) (v:=Value.int .i64 (k:Int)) rfl ?_
    simp only [Act.put,zA,zB,zC]
    refine bQ (i:=6) (v:=Value.pointer (some ⟨rb,0,none⟩)) rfl ?_
    simp only [Act.put,zA,zB,zC]
    refine wpAnyH_ready (rs:=[7]) (by kernel_rfl) (by simp) ?_
    refine AllReadyH.cons rfl (fun K hK=>?_) AllReadyH.nil
    rw [if_pos (by rfl)]
    go_simp
    have hc:=fZ s.cls rb S x dC _ HI2.out.drew hS (own_drewN HS2.out.cls 1) HS2.out.c24
    rw [T3.out] at hc
    refine hc.mono ?_
    clear hc
    rintro e w3 ⟨rfl,ho3⟩
    refine⟨rfl,?_⟩
    rw [HE.out]
    exact⟨rfl,(aK.out.drew.trans ho3).fr HI.out.cl _⟩
   | ok r=>
    obtain⟨m,qF⟩:=r
    have T3:=zH hn2
    have HE:Hid (F=.ok (qF,{ s with au:=s.au.set k (m:Int)})):=(by rw [HF.out];unfold Rl.dV;simp only [T1.out,T2.out,hn2]:F=.ok (qF,{ s with au:=s.au.set k (m:Int)}))
    obtain⟨g,cap,cur,hvg,hgb,_⟩:=Eu HS.out.vo (by omega)
    have XL:=zH hvg
    have hkI:(k:Int) <(s.cls.length:Int):=by omega
    clear hn2 vw hvg
    go_enter Tryz.func67,Tryz.ntmps67
    go_wp2_with (first |(go_at_call 89;have hc:=fZ s.cls rb S x ts _ (HI.out.alloc (.cells #[.string (bs tx),.int .i64 ti] 108)) hS (HS.out.cls.alloc _) HS.out.c24;rw [T1.out] at hc;refine hc.mono ?_;clear hc;rintro e w1 ⟨rfl,hI1,ho1⟩;have HI1:=zH hI1;clear hI1) |(go_at_call 55;have hc:=aU 61 rb S x bK _ HI1.out hS;rw [T2.out] at hc;refine hc.mono ?_;clear hc;rintro e w2 ⟨rfl,hI2,ho2⟩;have HI2:=zH hI2;obtain⟨i2,hR2,_,_⟩:=hI2;have d5:w2.cell? ⟨rb,5,none⟩=some (.slice (some ⟨g,0,none⟩) s.cls.length cap):=(by rw [←XL.out];exact hR2.c5);clear hR2;have aK:Hid (Only (·=rb) w w2):=(((Only.refl (·=rb) w).alloc _).trans ho1).trans ho2;have HS2:Hid (eF w2 rb x s):=HS.out.only aK.out))
    go_region_with (first |(go_at_call 89;have hc:=fZ s.cls rb S x dC _ HI2.out.drew hS (own_drewN HS2.out.cls 1) HS2.out.c24;rw [T3.out] at hc;refine hc.mono ?_;clear hc;rintro e w3 ⟨rfl,dQ,ho3⟩;have HI3:=zH dQ;obtain⟨i3,cz,_,_⟩:=dQ;have e5:w3.cell? ⟨rb,5,none⟩=some (.slice (some ⟨g,0,none⟩) s.cls.length cap):=(by rw [←XL.out];exact cz.c5);clear cz;have fK:Hid (Only (·=rb) w w3):=aK.out.drew.trans ho3;have M8:Hid (eF w3 rb x s):=HS.out.only fK.out;clear ho3;have hown:=M8.out.vo;rw [XL.out] at hown;have xX:=zH hown;clear hown;have hcell:∃old,w3.cell? ⟨g,k,none⟩=some old∧w3.frozen? ⟨g,k,none⟩=false:=Jz xX.out hkl;obtain⟨old,k1,k2⟩:=hcell))
    all_goals
     go_wp2_with fail
     go_end0
     rw [HE.out]
     obtain⟨g',cap',cur',hv',_,hh'⟩:=Eu xX.out (by omega)
     have eg:g=g':=by injection hv' with e1;injection e1 with e1;injection e1
     subst eg
     have XM:Only (·=g) w3 (w3.setCell ⟨g,k,none⟩ (.int .i64 (m:Int))):=(Only.refl (·=g) w3).setCell (p:=⟨g,k,none⟩) rfl _
     have htag:∀e',e'≠3→∀q,q=g→∀cur z,w3.heap[q]?≠some (.cells cur e' z):=fun e' he q hq cur z hh=>by subst hq;rw [hh'] at hh;injection hh with hh;injection hh with _ h2;exact he h2.symm
     have qB:=M8.out
     refine⟨rfl,x,rfl,HI3.out.setOther (by show g≠rb;omega) _,?_,(fK.out.fr HI.out.cl _).trans (XM.UO (by omega) ⟨_,_,_,hh'⟩ _)⟩
     exact⟨dS qB.cls XM (htag 9 (by decide)),by rw [XL.out,ints_set];exact fP xX.out hkl _,qB.iE.Jy XM (htag 119 (by decide)) (htag 117 (by decide)),qB.mp.only XM (by have:=qB.mb;omega),qB.jn,qB.af,qB.pl,qB.op,qB.mb,qB.c24,qB.Eo,qB.iJ⟩
theorem uo {E:Rl.Env} {ts bK:List Rl.Tk} {t:Rl.Tk} (h:Rl.fresh E ts=.ok (t,bK)):Rl.name ts=.ok (t,bK)∧Rl.find E t.text=none:=by
 unfold Rl.fresh at h
 split at h
 ·cases h
 ·rename_i hn
  split at h
  ·cases h
  ·rename_i hf
   cases h
   refine⟨hn,?_⟩
   cases hx:Rl.find E t.text with
   | none=>rfl
   | some b=>rw [hx] at hf;exact absurd rfl hf
theorem Ns (rb:Nat) (S:ByteArray) (x:Rd) (s:Rl.St) (p:Value) (ts:List Rl.Tk) (w:World) (h:In w rb S x ts) (hS:S.size≤4096) (hT:eF w rb x s) (tx:Rl.Str) (ti:Int) (hp:p=.agg #[.string (bs tx),.int .i64 ti]) (hen:s.env.length≤5000):
  Calls Tryz.prog 65 #[.pointer (some ⟨rb,0,none⟩),p] w (pq rb S x.mb w (Rl.set' ts s)):=by
 subst hp
 have hlt:=h.lt
 have HI:=zH h
 have HS:=zH hT
 have hmb:x.mb≠rb:=by have:=hT.mb;omega
 have UX:=hT.mb
 obtain⟨F,hF⟩:∃F,F=Rl.set' ts s:=⟨_,rfl⟩
 have HF:=zH hF
 rw [←hF]
 clear hT hF
 cases hn1:Rl.fresh s.env ts with
 | error f=>
  have T1:=zH hn1
  have HE:Hid (F=.error f):=(by rw [HF.out];unfold Rl.set';simp only [hn1]:F=.error f)
  clear hn1 h
  go_enter Tryz.func65,Tryz.ntmps65
  go_wp2_with (go_at_call 86;have hc:=dm s.env rb S x ts _ (HI.out.alloc (.cells #[.string (bs tx),.int .i64 ti] 108)) hS (HS.out.mp.alloc _) hmb;rw [T1.out] at hc;refine hc.mono ?_;clear hc;rintro e w1 ⟨rfl,ho1⟩)
  refine⟨rfl,?_⟩
  rw [HE.out]
  exact⟨rfl,(((Only.refl (·=rb) w).alloc _).trans ho1).fr HI.out.cl _⟩
 | ok r=>
  obtain⟨t,bK⟩:=r
  have T1:=zH hn1
  obtain⟨hnm,hfn⟩:=uo hn1
  have YV:=zH hfn
  have htl:t.text.length≤4096:=by
   obtain⟨i,_,hs,hi⟩:=h
   have:=(oZ hs hnm).2
   rw [←Lib.size_eq] at this
   omega
  clear hn1 hnm hfn h
  cases hw:Rl.want 61 bK with
  | error f=>
   have T2:=zH hw
   have HE:Hid (F=.error f):=(by rw [HF.out];unfold Rl.set';simp only [T1.out,hw]:F=.error f)
   clear hw
   go_enter Tryz.func65,Tryz.ntmps65
   go_wp2_with (first |(go_at_call 86;have hc:=dm s.env rb S x ts _ (HI.out.alloc (.cells #[.string (bs tx),.int .i64 ti] 108)) hS (HS.out.mp.alloc _) hmb;rw [T1.out] at hc;refine hc.mono ?_;clear hc;rintro e w1 ⟨rfl,hI1,ho1⟩;have HI1:=zH hI1;clear hI1) |(go_at_call 55;have hc:=aU 61 rb S x bK _ (HI1.out.alloc (.cells #[.string (bs t.text),.int .i64 (t.at':Int)] 108)) hS;rw [T2.out] at hc;refine hc.mono ?_;clear hc;rintro e w2 ⟨rfl,ho2⟩))
   refine⟨rfl,?_⟩
   rw [HE.out]
   exact⟨rfl,(((((Only.refl (·=rb) w).alloc _).trans ho1).alloc _).trans ho2).fr HI.out.cl _⟩
  | ok dC=>
   have T2:=zH hw
   clear hw
   cases hn2:Rl.names s.env dC 0 with
   | error f=>
    have T3:=zH hn2
    have HE:Hid (F=.error f):=(by rw [HF.out];unfold Rl.set';simp only [T1.out,T2.out,hn2]:F=.error f)
    clear hn2
    go_enter Tryz.func65,Tryz.ntmps65
    go_wp2_with (first |(go_at_call 86;have hc:=dm s.env rb S x ts _ (HI.out.alloc (.cells #[.string (bs tx),.int .i64 ti] 108)) hS (HS.out.mp.alloc _) hmb;rw [T1.out] at hc;refine hc.mono ?_;clear hc;rintro e w1 ⟨rfl,hI1,ho1⟩;have HI1:=zH hI1;clear hI1) |(go_at_call 55;have hc:=aU 61 rb S x bK _ (HI1.out.alloc (.cells #[.string (bs t.text),.int .i64 (t.at':Int)] 108)) hS;rw [T2.out] at hc;refine hc.mono ?_;clear hc;rintro e w2 ⟨rfl,hI2,ho2⟩;have HI2:=zH hI2;obtain⟨i2,hR2,_,_⟩:=hI2;have d7:=hR2.c7;clear hR2;have aK:Hid (Only (·=rb) w w2):=((((Only.refl (·=rb) w).alloc _).trans ho1).alloc _).trans ho2;have HS2:Hid (eF w2 rb x s):=HS.out.only aK.out;have hl1:=HI1.out.lt;have P2:Hid (Pb w2 w1.heap.size t.text t.at'):=(Pb.new w1 _ _).only ho2 (by omega);have p0:=P2.out.c0))
    have YW:w2.drew.cell? ⟨rb,7,none⟩=some (.map (some x.mb))∧w2.drew.cell? ⟨w1.heap.size,0,none⟩=some (.string (bs t.text)):=⟨d7,p0⟩
    refine wp_region_held_drew (S:=fun w'=>w'.cell? ⟨rb,7,none⟩=some (.map (some x.mb))∧w'.cell? ⟨w1.heap.size,0,none⟩=some (.string (bs t.text))) (by kernel_rfl) YW (fun hHeld=>?_)
    refine bQ (i:=0) (v:=Value.pointer (some ⟨rb,0,none⟩)) rfl ?_
    simp only [Act.put,zA,zB,zC]
    refine bQ (i:=1) (v:=Value.pointer (some ⟨rb,0,none⟩)) rfl ?_
    simp only [Act.put,zA,zB,zC]
    refine bQ (i:=2) (v:=Value.pointer (some ⟨rb,7,none⟩)) rfl ?_
    simp only [Act.put,zA,zB,zC]
    refine bQ (i:=3) (v:=Value.map (some x.mb)) rfl ?_
    simp only [Act.put,zA,zB,zC]
    refine bQ (i:=4) (v:=Value.pointer (some ⟨w1.heap.size,0,none⟩)) rfl ?_
    simp only [Act.put,zA,zB,zC]
    refine bQ (i:=5) (v:=Value.string (bs t.text)) rfl ?_
    simp only [Act.put,zA,zB,zC]
    refine bQ (i:=6) (v:=Value.pointer (some ⟨rb,0,none⟩)) rfl ?_
    simp only [Act.put,zA,zB,zC]
    refine wpAnyH_ready (rs:=[7]) (by kernel_rfl) (by simp) ?_
    refine AllReadyH.cons rfl (fun K hK=>?_) AllReadyH.nil
    rw [if_pos (by rfl)]
    go_simp
    have hc:=di s.env rb S x dC _ HI2.out.drew hS (HS2.out.mp.drewN 1) hmb
    rw [T3.out] at hc
    refine hc.mono ?_
    clear hc
    rintro e w3 ⟨rfl,ho3⟩
    refine⟨rfl,?_⟩
    rw [HE.out]
    exact⟨rfl,(aK.out.drew.trans ho3).fr HI.out.cl _⟩
   | ok r=>
    obtain⟨b,qF⟩:=r
    have T3:=zH hn2
    have HE:Hid (F=.ok (qF,{ s with env:=s.env++[(t.text,b)]})):=(by rw [HF.out];unfold Rl.set';simp only [T1.out,T2.out,hn2]:F=.ok (qF,{ s with env:=s.env++[(t.text,b)]}))
    have YX:=iF hn2 (by omega)
    clear hn2
    go_enter Tryz.func65,Tryz.ntmps65
    go_wp2_with (first |(go_at_call 86;have hc:=dm s.env rb S x ts _ (HI.out.alloc (.cells #[.string (bs tx),.int .i64 ti] 108)) hS (HS.out.mp.alloc _) hmb;rw [T1.out] at hc;refine hc.mono ?_;clear hc;rintro e w1 ⟨rfl,hI1,ho1⟩;have HI1:=zH hI1;clear hI1) |(go_at_call 55;have hc:=aU 61 rb S x bK _ (HI1.out.alloc (.cells #[.string (bs t.text),.int .i64 (t.at':Int)] 108)) hS;rw [T2.out] at hc;refine hc.mono ?_;clear hc;rintro e w2 ⟨rfl,hI2,ho2⟩;have HI2:=zH hI2;obtain⟨i2,hR2,_,_⟩:=hI2;have d7:=hR2.c7;clear hR2;have aK:Hid (Only (·=rb) w w2):=((((Only.refl (·=rb) w).alloc _).trans ho1).alloc _).trans ho2;have HS2:Hid (eF w2 rb x s):=HS.out.only aK.out;have hl1:=HI1.out.lt;have P2:Hid (Pb w2 w1.heap.size t.text t.at'):=(Pb.new w1 _ _).only ho2 (by omega);have p0:=P2.out.c0))
    have YW:w2.drew.cell? ⟨rb,7,none⟩=some (.map (some x.mb))∧w2.drew.cell? ⟨w1.heap.size,0,none⟩=some (.string (bs t.text)):=⟨d7,p0⟩
    refine wp_region_held_drew (S:=fun w'=>w'.cell? ⟨rb,7,none⟩=some (.map (some x.mb))∧w'.cell? ⟨w1.heap.size,0,none⟩=some (.string (bs t.text))) (by kernel_rfl) YW (fun hHeld=>?_)
    refine bQ (i:=0) (v:=Value.pointer (some ⟨rb,0,none⟩)) rfl ?_
    simp only [Act.put,zA,zB,zC]
    refine bQ (i:=1) (v:=Value.pointer (some ⟨rb,0,none⟩)) rfl ?_
    simp only [Act.put,zA,zB,zC]
    refine bQ (i:=2) (v:=Value.pointer (some ⟨rb,7,none⟩)) rfl ?_
    simp only [Act.put,zA,zB,zC]
    refine bQ (i:=3) (v:=Value.map (some x.mb)) rfl ?_
    simp only [Act.put,zA,zB,zC]
    refine bQ (i:=4) (v:=Value.pointer (some ⟨w1.heap.size,0,none⟩)) rfl ?_
    simp only [Act.put,zA,zB,zC]
    refine bQ (i:=5) (v:=Value.string (bs t.text)) rfl ?_
    simp only [Act.put,zA,zB,zC]
    refine bQ (i:=6) (v:=Value.pointer (some ⟨rb,0,none⟩)) rfl ?_
    simp only [Act.put,zA,zB,zC]
    refine wpAnyH_ready (rs:=[7]) (by kernel_rfl) (by simp) ?_
    refine AllReadyH.cons rfl (fun K hK=>?_) AllReadyH.nil
    rw [if_pos (by rfl)]
    go_simp
    have hc:=di s.env rb S x dC _ HI2.out.drew hS (HS2.out.mp.drewN 1) hmb
    rw [T3.out] at hc
    refine hc.mono ?_
    clear hc
    rintro e w3 ⟨rfl,dQ,ho3⟩
    have fK:Only (·=rb) w w3:=aK.out.drew.trans ho3
    have qB:eF w3 rb x s:=HS.out.only fK
    have UY:Pb w3 w1.heap.size t.text t.at':=P2.out.only (P:=(·=rb)) ((Only.refl (·=rb) w2).drew.trans ho3) (by omega)
    have hd3:w3.cell? ⟨rb,7,none⟩=some (.map (some x.mb))∧w3.cell? ⟨w1.heap.size,0,none⟩=some (.string (bs t.text)):=by
     obtain⟨i3,cz,_,_⟩:=dQ
     exact⟨cz.c7,UY.c0⟩
    refine hK.out _ _ hd3 (fun iK=>?_)
    clear hK
    try simp only [Act.put,zA,zB,zC]
    refine wpAnyH_ready (rs:=[8]) (by kernel_rfl) (by simp) ?_
    refine AllReadyH.cons rfl (fun K hK=>?_) AllReadyH.nil
    obtain⟨D,hown,Q_,hD⟩:=qB.mp
    refine cK rfl (wp_put w3 _ _ _ 80 rfl 9 32 ug Tryz.underlying80 _ x.mb s.env.length D rfl hown (by unfold maxLen;omega) _ _ _ rfl rfl (Ja t.text htl) _ [] (plainElem_int Tryz.underlying32 (wf_u32 YX)) ?_)
    intro w4 rU hg4
    have Co:Only (·=x.mb) w3 w4:=⟨hg4.os,hg4.tape,hg4.output,hg4.size,fun g hg hn=>hg4.block g hg (fun e=>hn (by injection e))⟩
    have hd4:w4.cell? ⟨rb,7,none⟩=some (.map (some x.mb))∧w4.cell? ⟨w1.heap.size,0,none⟩=some (.string (bs t.text)):=by
     obtain⟨i3,cz,_,_⟩:=dQ
     exact⟨(cz.only Co (by omega)).c7,(UY.only Co (by omega)).c0⟩
    refine hK.out _ _ hd4 (fun nQ=>?_)
    clear hK
    refine wpAnyH_done (by kernel_rfl) ?_ _
    clear hHeld iK nQ
    go_wp2_with fail
    go_end0
    rw [HE.out]
    refine⟨rfl,x,rfl,dQ.only Co (by omega),?_,(fK.fr HI.out.cl _).trans Co.UQ⟩
    exact⟨ai qB.cls Co (fun g hg=>by omega),ai qB.vo Co (fun g hg=>by omega),qB.iE.only Co (fun g hg=>by omega),Mp.put (w:=w3) Q_ hD rU YV.out,qB.jn,qB.af,qB.pl,qB.op,qB.mb,qB.c24,qB.Eo,qB.iJ⟩
end Go.Proofs.YtdlabakleldgaaaGreatDoor
