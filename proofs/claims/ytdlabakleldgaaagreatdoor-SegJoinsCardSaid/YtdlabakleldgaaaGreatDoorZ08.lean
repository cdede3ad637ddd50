/- Thing Thing2 Row -/
import Derived.Test.YtdlabakleldgaaaGreatDoorZ00
import Derived.Test.YtdlabakleldgaaaGreatDoorZ07
set_option linter.unusedVariables false
set_option linter.unusedSimpArgs false
set_option maxRecDepth 100000
set_option maxHeartbeats 8000000
namespace Go.Proofs.YtdlabakleldgaaaGreatDoor
open Go.RowKit Go.Maps
def Rd.dJ (x:Rd) (d:Int):Rd:={ x with op:=d}
theorem bY.FR {w:World} {rb:Nat} {S:ByteArray} {i:Int} {x:Rd} (h:bY w rb S i x) (v:Int):bY (w.setCell ⟨rb,9,none⟩ (.int .i64 v)) rb S i (x.dJ v):=aa h _
theorem In.FR {w:World} {rb:Nat} {S:ByteArray} {x:Rd} {ts:List Rl.Tk} (h:In w rb S x ts) (v:Int):In (w.setCell ⟨rb,9,none⟩ (.int .i64 v)) rb S (x.dJ v) ts:=by
 obtain⟨i,h1,h2⟩:=h
 exact⟨i,h1.FR v,h2⟩
structure Cx (nc:Nat) (rb:Nat) (x:Rd) (p d:Nat):Prop where
 mb:x.mb≠rb
 pl:x.pl=(p:Int)
 iJ:p≤200
 op:x.op=(d:Int)
 d16:d≤16
 vC:∃a cap,x.vC=.slice a nc cap
 Na:nc≤24
theorem Cx.ay {nc rb:Nat} {x:Rd} {p d:Nat} (h:Cx nc rb x p d) {q:Nat} (hq:q≤200):Cx nc rb (x.ay q) q d:=⟨h.mb,rfl,hq,h.op,h.d16,h.vC,h.Na⟩
theorem Cx.dJ {nc rb:Nat} {x:Rd} {p d:Nat} (h:Cx nc rb x p d) {q:Nat} (hq:q≤16):Cx nc rb (x.dJ q) p q:=⟨h.mb,h.pl,h.iJ,rfl,hq,h.vC,h.Na⟩
def dD (E:Rl.Env) (nc rb:Nat) (S:ByteArray) (n:Nat):Prop:=∀(d p:Nat) (x:Rd) (ts:List Rl.Tk) (w:World),In w rb S x ts→Mp w x.mb E→Cx nc rb x p d→4*ts.length+3≤n→
 Calls Tryz.prog 111 #[.pointer (some ⟨rb,0,none⟩)] w (zQ rb S x w (Rl.either E nc n d ts p))
def uj (E:Rl.Env) (nc rb:Nat) (S:ByteArray) (n:Nat):Prop:=∀(d p:Nat) (x:Rd) (ts:List Rl.Tk) (w:World),In w rb S x ts→Mp w x.mb E→Cx nc rb x p d→4*ts.length+2≤n→
 Calls Tryz.prog 126 #[.pointer (some ⟨rb,0,none⟩)] w (zQ rb S x w (Rl.row E nc n d ts p []))
def jq (E:Rl.Env) (nc rb:Nat) (S:ByteArray) (n:Nat):Prop:=∀(d p:Nat) (x:Rd) (t:Rl.Tk) (ts:List Rl.Tk) (w:World),In w rb S x (t::ts)→Mp w x.mb E→Cx nc rb x p d→¬ t.bad=true→Rl.sS t=true→4*(ts.length+1)+1≤n→
 Calls Tryz.prog 136 #[.pointer (some ⟨rb,0,none⟩)] w (zQ rb S x w (Rl.thing E nc n d (t::ts) p))
def UL (E:Rl.Env) (nc n d:Nat) (t:Rl.Tk) (ts:List Rl.Tk) (p:Nat):Rl.R (Rl.Ex × List Rl.Tk × Nat):=
 if d=16 then .error (25,t.at') else match Rl.either E nc n (d+1) ts p with
  | .error f=>.error f
  | .ok (e,bK,p1)=>match Rl.want 41 bK with
   | .error f=>.error f
   | .ok dC=>.ok (e,dC,p1)
theorem Ci (E:Rl.Env) (nc n d:Nat) (t:Rl.Tk) (ts:List Rl.Tk) (p:Nat):Rl.thing E nc (n+1) d (t::ts) p=if t.text=[40] then UL E nc n d t ts p else
  match Rl.fq E nc (t::ts) p with
  | .error f=>.error f
  | .ok (b,bK,p1)=>.ok (.mk 1 b [],bK,p1):=by simp only [Rl.thing,UL];rfl
theorem Tr.leaf (w:World) (F:Nat→Prop) (op s:Int):Tr w F (.mk op s []) (.agg #[.int .u8 op,.int .u32 s,.slice none 0 0]):=by
 unfold Tr
 exact⟨none,0,rfl,Nat.le_refl _,fun h=>absurd rfl h⟩
theorem rQ (E:Rl.Env) (nc n d p rb:Nat) (S:ByteArray) (x:Rd) (t:Rl.Tk) (ts:List Rl.Tk) (i:Int) (w:World) (hR:bY w rb S i x) (hs:Rl.jg S.data.toList t.at' (t::ts)) (ht:t.at'+t.text.length≤S.size) (hS:S.size≤4096)
  (hM:Mp w x.mb E) (hC:Cx nc rb x p d) (hne:t.text≠[]) (hE:dD E nc rb S n) (hn:4*ts.length+3≤n):
  Calls Tryz.prog 147 #[.pointer (some ⟨rb,0,none⟩),.agg #[.string (bs t.text),.int .i64 (t.at':Int)]] w (zQ rb S x w (UL E nc n d t ts p)):=by
 have hlt:=hR.lt
 have c9:=hR.c9
 have f9:=hR.fz 9
 rw [hC.op] at c9
 have HC:=zH hC
 have HR:=zH hR
 have HM:=zH hM
 have Hs:=zH hs
 have HE:=zH hE
 have Jd:=zH hne
 have aa1:=hC.d16
 have iA:Hid (Only (·=rb) w ((w.alloc (.cells #[.string (bs t.text),.int .i64 (t.at':Int)] 108)).alloc (.cells #[.int .u8 0,.int .u32 0,.slice none 0 0] 117))):=((Only.refl (·=rb) w).alloc _).alloc _
 have P0:Hid (Pb ((w.alloc (.cells #[.string (bs t.text),.int .i64 (t.at':Int)] 108)).alloc (.cells #[.int .u8 0,.int .u32 0,.slice none 0 0] 117)) w.heap.size t.text t.at'):=(Pb.new w _ _).alloc _
 have Z0:Hid (Xb ((w.alloc (.cells #[.string (bs t.text),.int .i64 (t.at':Int)] 108)).alloc (.cells #[.int .u8 0,.int .u32 0,.slice none 0 0] 117)) (w.heap.size+1) (.int .u8 0) (.int .u32 0) (.slice none 0 0)):=heap_alloc2_new _ _ _
 clear hR hM hC hs hE hne
 unfold UL
 by_cases h16:d=16
 ·rw [if_pos h16]
  have q:((d:Int)==16)=true:=by simp;omega
  clear h16
  go_enter Tryz.func147,Tryz.ntmps147
  go_wp2_with (go_at_call 53;refine (bR 25 t.at' _).mono ?_;rintro e w3 ⟨rfl,rfl⟩)
  exact⟨rfl,rfl,iA.out⟩
 ·rw [if_neg h16]
  have q:((d:Int)==16)=false:=by simp;omega
  have hd1:(d:Int) < 16:=by omega
  clear h16
  cases he:Rl.either E nc n (d+1) ts p with
  | error f=>
   have T1:=zH he
   clear he
   simp only
   go_enter Tryz.func147,Tryz.ntmps147
   go_wp2_with (first |(go_at_call 54;refine (iY rb S i t.at' t.text x _ ((HR.out.alloc _).alloc _) (by omega)).mono ?_;rintro e w1 ⟨rfl,az,ho1⟩;have d9:=az.c9;rw [HC.out.op] at d9;have g9:=az.fz 9;have HR1:=zH az;clear az;have bu:Hid (Only (·=rb) w w1):=iA.out.trans ho1) |(go_at_call 111;have hc:=HE.out (d+1) p (x.dJ ((d+1:Nat):Int)) ts (w1.setCell ⟨rb,9,none⟩ (.int .i64 ((d:Int)+1))) ⟨_,HR1.out.FR ((d:Int)+1),Rl.eG Hs.out Jd.out,ht⟩ ((HM.out.only bu.out HC.out.mb).setOther (fun e=>HC.out.mb e.symm) _) (HC.out.dJ (by omega)) (by omega);rw [T1.out] at hc;refine hc.mono ?_;clear hc;rintro e w2 ⟨rfl,ho2⟩))
   exact⟨rfl,rfl,(bu.out.setCell (p:=⟨rb,9,none⟩) rfl _).trans ho2⟩
  | ok r=>
   obtain⟨ex,bK,p1⟩:=r
   have T1:=zH he
   clear he
   simp only
   cases hw:Rl.want 41 bK with
   | error f=>
    have T2:=zH hw
    clear hw
    simp only
    go_enter Tryz.func147,Tryz.ntmps147
    go_wp2_with (first |(go_at_call 54;refine (iY rb S i t.at' t.text x _ ((HR.out.alloc _).alloc _) (by omega)).mono ?_;rintro e w1 ⟨rfl,az,ho1⟩;have d9:=az.c9;rw [HC.out.op] at d9;have g9:=az.fz 9;have HR1:=zH az;clear az;have bu:Hid (Only (·=rb) w w1):=iA.out.trans ho1) |(go_at_call 111;have hc:=HE.out (d+1) p (x.dJ ((d+1:Nat):Int)) ts (w1.setCell ⟨rb,9,none⟩ (.int .i64 ((d:Int)+1))) ⟨_,HR1.out.FR ((d:Int)+1),Rl.eG Hs.out Jd.out,ht⟩ ((HM.out.only bu.out HC.out.mb).setOther (fun e=>HC.out.mb e.symm) _) (HC.out.dJ (by omega)) (by omega);rw [T1.out] at hc;refine hc.mono ?_;clear hc;rintro e w2 ⟨v,rfl,FT,hI2,ho2⟩;obtain⟨o,s,a,k,c,rfl⟩:=FT.form) |(go_at_call 55;have hc:=aU 41 rb S ((x.dJ ((d+1:Nat):Int)).ay p1) bK _ (hI2.alloc (.cells #[.int .u8 o,.int .u32 s,.slice a k c] 117)) hS;rw [T2.out] at hc;refine hc.mono ?_;clear hc;rintro e w3 ⟨rfl,ho3⟩))
    exact⟨rfl,rfl,(((bu.out.setCell (p:=⟨rb,9,none⟩) rfl _).trans ho2).alloc _).trans ho3⟩
   | ok dC=>
    have T2:=zH hw
    clear hw
    simp only
    have hdd:(d:Int)+1 - 1=(d:Int):=by omega
    go_enter Tryz.func147,Tryz.ntmps147
    go_wp2_with (first |(go_at_call 54;refine (iY rb S i t.at' t.text x _ ((HR.out.alloc _).alloc _) (by omega)).mono ?_;rintro e w1 ⟨rfl,az,ho1⟩;have d9:=az.c9;rw [HC.out.op] at d9;have g9:=az.fz 9;have HR1:=zH az;clear az;have bu:Hid (Only (·=rb) w w1):=iA.out.trans ho1;have Z1:Hid (Xb w1 (w.heap.size+1) (.int .u8 0) (.int .u32 0) (.slice none 0 0)):=Z0.out.only ho1 (by omega);have hl1:=Z1.out.lt) |(go_at_call 111;have hc:=HE.out (d+1) p (x.dJ ((d+1:Nat):Int)) ts (w1.setCell ⟨rb,9,none⟩ (.int .i64 ((d:Int)+1))) ⟨_,HR1.out.FR ((d:Int)+1),Rl.eG Hs.out Jd.out,ht⟩ ((HM.out.only bu.out HC.out.mb).setOther (fun e=>HC.out.mb e.symm) _) (HC.out.dJ (by omega)) (by omega);rw [T1.out] at hc;refine hc.mono ?_;clear hc;rintro e w2 ⟨v,rfl,FT,hI2,ho2⟩;obtain⟨o,s,a,k,c,rfl⟩:=FT.form;have HT2:Hid (Tr w2 (fun b=>w1.heap.size≤b) ex (.agg #[.int .u8 o,.int .u32 s,.slice a k c])):=(by have:=FT;simp only [World.setCell,Array.size_modify] at this;exact this);have HI2:=zH hI2;clear FT hI2;have aK:Hid (Only (·=rb) w w2):=(bu.out.setCell (p:=⟨rb,9,none⟩) rfl _).trans ho2;have Z2:Hid (Xb w2 (w.heap.size+1) (.int .u8 0) (.int .u32 0) (.slice none 0 0)):=(Z1.out.only ((Only.refl (·=rb) w1).setCell (p:=⟨rb,9,none⟩) rfl _) (by omega)).only ho2 (by omega);have hl2:=Z2.out.lt) |(go_at_call 55;have hc:=aU 41 rb S ((x.dJ ((d+1:Nat):Int)).ay p1) bK _ (HI2.out.alloc (.cells #[.int .u8 o,.int .u32 s,.slice a k c] 117)) hS;rw [T2.out] at hc;refine hc.mono ?_;clear hc;rintro e w3 ⟨rfl,dQ,ho3⟩;have HI3:=zH dQ;obtain⟨i3,cz,_,_⟩:=dQ;have d9:w3.cell? ⟨rb,9,none⟩=some (.int .i64 ((d:Int)+1)):=cz.c9;have g9:=cz.fz 9;clear cz;have fK:Hid (Only (·=rb) w w3):=(aK.out.alloc _).trans ho3;have Z3:Hid (Xb w3 (w.heap.size+1) (.int .u8 0) (.int .u32 0) (.slice none 0 0)):=(Z2.out.alloc _).only ho3 (by omega);have C3:Hid (Xb w3 w2.heap.size (.int .u8 o) (.int .u32 s) (.slice a k c)):=(Xb.new w2 _ _ _).only ho3 (by omega);have x0:=C3.out.c0;have x1:=C3.out.c1;have x2:=C3.out.c2;have z0:=Z3.out.c0;have z1:=Z3.out.c1;have z2:=Z3.out.c2;have wJ:=Z3.out.fz 0;have wK:=Z3.out.fz 1;have wL:=Z3.out.fz 2;have hl3:=Z3.out.lt;have HT3:Hid (Tr w3 (fun b=>w1.heap.size≤b) ex (.agg #[.int .u8 o,.int .u32 s,.slice a k c])):=HT2.out.later (((Only.refl (·=rb) w2).alloc _).trans ho3) (fun b hb=>by omega) (fun b hb=>hb)))
    have hX:(((x.dJ ((d+1:Nat):Int)).ay p1).dJ (d:Int))=x.ay p1:=by
     have:=HC.out.op
     cases x
     simp only [Rd.dJ,Rd.ay] at this ⊢
     rw [this]
    refine bodyPost_ret (v:=.agg #[.int .u8 o,.int .u32 s,.slice a k c]) (aI rfl _ rfl (((Z3.out.only ((Only.refl (·=rb) w3).setCell (p:=⟨rb,9,none⟩) rfl (.int .i64 (d:Int))) (by omega))).aV _ _ _)) rfl ?_
    refine⟨_,rfl,?_,?_,(fK.out.setCell (p:=⟨rb,9,none⟩) rfl _).aV (z:=w.heap.size+1) (by omega) _ _ _⟩
    ·refine HT3.out.keep fun b hb hl=>⟨by omega,?_⟩
     rw [show ∀W:World,(((W.setCell ⟨w.heap.size+1,0,none⟩ (.int .u8 o)).setCell ⟨w.heap.size+1,1,none⟩ (.int .u32 s)).setCell ⟨w.heap.size+1,2,none⟩ (.slice a k c))=aV W (w.heap.size+1) (.int .u8 o) (.int .u32 s) (.slice a k c) from fun _=>rfl]
     exact (dI _ _ _ _ (by omega)).trans (Below.heap_setCell _ _ _ _ (by show ¬ b=rb;omega))
    ·rw [←hX]
     exact (HI3.out.FR _).aV (by omega) _ _ _
theorem nJ (E:Rl.Env) (nc rb:Nat) (S:ByteArray) (n:Nat) (hS:S.size≤4096) (hE:dD E nc rb S n):jq E nc rb S (n+1):=by
 intro d p x t ts w hI hM hC hb xW hn
 have hlt:=hI.lt
 have HC:=zH hC
 have HI:=zH hI
 have HM:=zH hM
 have HE:=zH hE
 have HB:=zH hb
 have QX:=zH xW
 have Z0:Hid (Xb (w.alloc (.cells #[.int .u8 0,.int .u32 0,.slice none 0 0] 117)) w.heap.size (.int .u8 0) (.int .u32 0) (.slice none 0 0)):=Xb.new w _ _ _
 have ht:=bZ t.text
 have h40:(⟨#[40]⟩:ByteArray).toList=[40]:=by rw [Lib.toList_data]
 rw [Ci]
 clear hI hM hC hE hb xW
 by_cases htx:t.text=[40]
 ·rw [if_pos htx]
  have q:(t.text==[40])=true:=by rw [htx];simp
  have Jd:Hid (t.text≠[]):=(by rw [htx];simp:t.text≠[])
  clear htx
  cases hF:UL E nc n d t ts p with
  | error f=>
   have T1:=zH hF
   clear hF
   go_enter Tryz.func136,Tryz.ntmps136
   go_wp2_with (first |(go_at_call 52;refine (bB rb S x t ts _ (HI.out.alloc _) hS HB.out).mono ?_;rintro e w1 ⟨rfl,az,hs1,he1,ho1⟩;have lu:=zH hs1;have HR1:=zH az;clear hs1 az;have bu:Hid (Only (·=rb) w w1):=((Only.refl (·=rb) w).alloc _).trans ho1) |(go_at_call 147;have hc:=rQ E nc n d p rb S x t ts t.at' _ (HR1.out.alloc (.cells #[.string (bs t.text),.int .i64 (t.at':Int)] 108)) lu.out he1 hS ((HM.out.only bu.out HC.out.mb).alloc _) HC.out Jd.out HE.out (by omega);rw [T1.out] at hc;refine hc.mono ?_;clear hc;rintro e w2 ⟨rfl,ho2⟩))
   exact⟨rfl,rfl,(bu.out.alloc _).trans ho2⟩
  | ok r=>
   obtain⟨ex,dC,p2⟩:=r
   have T1:=zH hF
   clear hF
   go_enter Tryz.func136,Tryz.ntmps136
   go_wp2_with (first |(go_at_call 52;refine (bB rb S x t ts _ (HI.out.alloc _) hS HB.out).mono ?_;rintro e w1 ⟨rfl,az,hs1,he1,ho1⟩;have lu:=zH hs1;have HR1:=zH az;clear hs1 az;have bu:Hid (Only (·=rb) w w1):=((Only.refl (·=rb) w).alloc _).trans ho1;have Z1:Hid (Xb w1 w.heap.size (.int .u8 0) (.int .u32 0) (.slice none 0 0)):=Z0.out.only ho1 (by omega);have hl1:=Z1.out.lt) |(go_at_call 147;have hc:=rQ E nc n d p rb S x t ts t.at' _ (HR1.out.alloc (.cells #[.string (bs t.text),.int .i64 (t.at':Int)] 108)) lu.out he1 hS ((HM.out.only bu.out HC.out.mb).alloc _) HC.out Jd.out HE.out (by omega);rw [T1.out] at hc;refine hc.mono ?_;clear hc;rintro e w2 ⟨v,rfl,FT,hI2,ho2⟩;obtain⟨o,s,a,k,c,rfl⟩:=FT.form;have Z2:Hid (Xb w2 w.heap.size (.int .u8 0) (.int .u32 0) (.slice none 0 0)):=(Z1.out.alloc _).only ho2 (by omega);have z0:=Z2.out.c0;have z1:=Z2.out.c1;have z2:=Z2.out.c2;have wJ:=Z2.out.fz 0;have wK:=Z2.out.fz 1;have wL:=Z2.out.fz 2;have HT2:Hid (Tr w2 (fun b=>w1.heap.size+1≤b) ex (.agg #[.int .u8 o,.int .u32 s,.slice a k c])):=(by have:=FT;simp only [World.alloc,Array.size_push] at this;exact this);have HI2:=zH hI2;clear FT hI2;have aK:Hid (Only (·=rb) w w2):=(bu.out.alloc _).trans ho2))
   refine bodyPost_ret (v:=.agg #[.int .u8 o,.int .u32 s,.slice a k c]) (aI rfl _ rfl (Z2.out.aV _ _ _)) rfl ?_
   refine⟨_,rfl,?_,HI2.out.aV (z:=w.heap.size) (by omega) _ _ _,aK.out.aV (z:=w.heap.size) (Nat.le_refl _) _ _ _⟩
   refine HT2.out.keep fun b hb hl=>⟨by omega,?_⟩
   exact dI w2 (z:=w.heap.size) _ _ _ (by omega)
 ·rw [if_neg htx]
  have q:(t.text==[40])=false:=by simpa using htx
  have Hno:=zH htx
  clear htx
  obtain⟨a,cap,hv⟩:=HC.out.vC
  have Hv:=zH hv
  clear hv
  cases hF:Rl.fq E nc (t::ts) p with
  | error f=>
   have T1:=zH hF
   clear hF
   simp only
   go_enter Tryz.func136,Tryz.ntmps136
   go_wp2_with (first |(go_at_call 52;refine (bB rb S x t ts _ (HI.out.alloc _) hS HB.out).mono ?_;rintro e w1 ⟨rfl,az,hs1,he1,ho1⟩;have HI1:Hid (In w1 rb S x (t::ts)):=⟨_,az,hs1,by omega⟩;clear hs1 az;have bu:Hid (Only (·=rb) w w1):=((Only.refl (·=rb) w).alloc _).trans ho1) |(go_at_call 148;have hc:=zM E nc p rb S x t ts _ (HI1.out.alloc (.cells #[.string (bs t.text),.int .i64 (t.at':Int)] 108)) hS ((HM.out.only bu.out HC.out.mb).alloc _) HC.out.mb HB.out QX.out Hno.out HC.out.pl HC.out.iJ a cap Hv.out HC.out.Na;rw [T1.out] at hc;refine hc.mono ?_;clear hc;rintro e w2 ⟨rfl,ho2⟩))
   exact⟨rfl,rfl,(bu.out.alloc _).trans ho2⟩
  | ok r=>
   obtain⟨b,dC,p2⟩:=r
   have T1:=zH hF
   clear hF
   simp only
   go_enter Tryz.func136,Tryz.ntmps136
   go_wp2_with (first |(go_at_call 52;refine (bB rb S x t ts _ (HI.out.alloc _) hS HB.out).mono ?_;rintro e w1 ⟨rfl,az,hs1,he1,ho1⟩;have HI1:Hid (In w1 rb S x (t::ts)):=⟨_,az,hs1,by omega⟩;clear hs1 az;have bu:Hid (Only (·=rb) w w1):=((Only.refl (·=rb) w).alloc _).trans ho1;have Z1:Hid (Xb w1 w.heap.size (.int .u8 0) (.int .u32 0) (.slice none 0 0)):=Z0.out.only ho1 (by omega)) |(go_at_call 148;have hc:=zM E nc p rb S x t ts _ (HI1.out.alloc (.cells #[.string (bs t.text),.int .i64 (t.at':Int)] 108)) hS ((HM.out.only bu.out HC.out.mb).alloc _) HC.out.mb HB.out QX.out Hno.out HC.out.pl HC.out.iJ a cap Hv.out HC.out.Na;rw [T1.out] at hc;refine hc.mono ?_;clear hc;rintro e w2 ⟨rfl,hI2,ho2⟩;have Z2:Hid (Xb w2 w.heap.size (.int .u8 0) (.int .u32 0) (.slice none 0 0)):=(Z1.out.alloc _).only ho2 (by omega);have z0:=Z2.out.c0;have z1:=Z2.out.c1;have z2:=Z2.out.c2;have wJ:=Z2.out.fz 0;have wK:=Z2.out.fz 1;have wL:=Z2.out.fz 2;have HI2:=zH hI2;clear hI2;have aK:Hid (Only (·=rb) w w2):=(bu.out.alloc _).trans ho2))
   refine bodyPost_ret (v:=.agg #[.int .u8 1,.int .u32 b,.slice none 0 0]) (aI rfl _ rfl (Z2.out.aV _ _ _)) rfl ?_
   exact⟨_,rfl,Tr.leaf _ _ _ _,HI2.out.aV (z:=w.heap.size) (by omega) _ _ _,aK.out.aV (z:=w.heap.size) (Nat.le_refl _) _ _ _⟩
theorem Je (E : Rl.Env) (nc n d : Nat) (t : Rl.Tk) (ts : List Rl.Tk) (p : Nat) (l : List Rl.Ex) : Rl.row E nc (n + 1) d (t :: ts) p l = if t.bad = true then .error (20, t.at') else if Rl.sS t = true then
        match Rl.thing E nc n d (t::ts) p with
        | .error f=>.error f
        | .ok (e,bK,p1)=>match Rl.often e bK with
          | .error f=>.error f
          | .ok (e2,dC)=>Rl.row E nc n d dC p1 (l++[e2])
      else .ok (Rl.mkSeq l,t::ts,p):=by simp only [Rl.row];rfl
theorem ah {w:World} {base e size n:Nat} {v:Value} {xs:List Value} (h:w.ownsRow base e size v n xs):∃a cap,v=.slice a n cap:=by
 obtain⟨hl,⟨hv,h0⟩ | ⟨g,cap,cur,hv,_⟩⟩:=h
 ·subst h0;exact⟨none,0,hv⟩
 ·exact⟨_,cap,hv⟩
theorem ai {w w':World} {base e size n:Nat} {v:Value} {xs:List Value} {P:Nat→Prop} (h:w.ownsRow base e size v n xs) (ho:Only P w w') (hP:∀g,base≤g→¬ P g):w'.ownsRow base e size v n xs:=by
 obtain⟨hl,h | ⟨g,cap,cur,hv,hb,hh,h1⟩⟩:=h
 ·exact⟨hl,Or.inl h⟩
 ·exact⟨hl,Or.inr ⟨g,cap,cur,hv,hb,(ho.block g (Array.getElem?_eq_some_iff.1 hh).1 (hP g hb)).trans hh,h1⟩⟩
theorem ax {w:World} {base e size n:Nat} {v:Value} {xs:List Value} (h:w.ownsRow base e size v n xs) (hn:0 < n):
  ∃g cap,v=.slice (some ⟨g,0,none⟩) n cap∧base≤g∧g < w.heap.size∧n≤cap∧∀j,j < n*size→w.cell? ⟨g,j,none⟩=xs[j]?:=by
 obtain⟨hl,⟨hv,h0⟩ | ⟨g,cap,cur,hv,h1,h2,h3,h4,h5,h6⟩⟩:=h
 ·omega
 ·refine⟨g,cap,hv,h1,(Array.getElem?_eq_some_iff.1 h2).1,h3,fun j hj=>?_⟩
  rw [cell_of_row w g j cur e (0,0) h2,←h6,List.getElem?_take,if_pos hj]
  simp
theorem o9 {l:Rl.Str}:∀ {ts:List Rl.Tk} {i:Nat},Rl.jg l i ts→i≤l.length→ts.length+i≤l.length+1
 | [],_,h,_=>h.elim
 | t::ts,i,h,hi=>by
  have h2:=h.2
  by_cases e:t.text=[]
  ·rw [if_pos e] at h2
   subst h2
   simp;omega
  ·rw [if_neg e] at h2
   have h3:=Rl.xK l i hi
   rw [←h.1] at h3
   have h4:0 < t.text.length:=List.length_pos_iff.2 e
   have h5:i≤t.at':=by rw [h.1];exact Rl.IG l i
   have h6:=o9 h2 h3
   simp only [List.length_cons]
   omega
theorem In.len {w:World} {rb:Nat} {S:ByteArray} {x:Rd} {ts:List Rl.Tk} (h:In w rb S x ts):ts.length≤S.size+1:=by
 obtain⟨i,_,hs,hi⟩:=h
 have:=o9 hs (by rw [←Lib.size_eq];exact hi)
 rw [←Lib.size_eq] at this
 omega
def Kb (base:Nat) (v:Value) (b:Nat):Prop:=base≤b∧v.ownBlock≠some b
def Es (w:World) (base:Nat) (v:Value) (l:List Rl.Ex):Prop:=∃xs,w.ownsRow base 117 3 v l.length xs∧fM w (Kb base v) l (fun j=>xs[j]?)
theorem Es.nil (w:World) (base:Nat):Es w base (.slice none 0 0) []:=⟨[],World.ownsRow_nil _ _ _ _,by unfold fM;trivial⟩
theorem Es.snoc {w w':World} {base:Nat} {v v':Value} {l:List Rl.Ex} {xs:List Value} {e:Rl.Ex} {o s k:Value} {F:Nat→Prop} {ob:Obj} (h1:w.ownsRow base 117 3 v l.length xs) (h2:fM w (Kb base v) l (fun j=>xs[j]?)) (he:Tr w F e (.agg #[o,s,k]))
  (hF:∀b,F b→Kb base v b) (hown:w'.ownsRow base 117 3 v' (l.length+1) (xs++[o,s,k])) (hg:(w.alloc ob).grownBy w' v.ownBlock) (hat:v'.ownBlock=v.ownBlock∨v'.ownBlock=some (w.alloc ob).heap.size):Es w' base v' (l++[e]):=by
 refine⟨xs++[o,s,k],by rw [List.length_append];exact hown,?_⟩
 have hk:∀b,Kb base v b→b < w.heap.size→Kb base v' b∧w'.heap[b]?=w.heap[b]?:=fun b hb hl=>by
  refine⟨⟨hb.1,fun e=>?_⟩,(hg.block b (by simp;omega) (fun e=>hb.2 e.symm)).trans (Below.heap_alloc _ _ _ hl)⟩
  rcases hat with h | h
  ·exact hb.2 (h ▸ e)
  ·rw [h] at e
   injection e with e
   simp at e
   omega
 exact fM.snoc (he.keep (fun b hb hl=>hk b (hF b hb) hl)) l xs (by rw [h1.1];omega) (h2.keep hk)
theorem row_step (E:Rl.Env) (nc rb:Nat) (S:ByteArray) (n:Nat) (hS:S.size≤4096) (hT:∀m,m < n→jq E nc rb S m):uj E nc rb S n:=by
 intro d p x ts w hI hM hC hn
 obtain⟨i0,hi,hz0,hz1,hz2⟩:=info_parts nI
 have hlt:=hI.lt
 have htl:ts.length≤5000:=by have:=hI.len;omega
 have HC:=zH hC
 have HI:=zH hI
 have HM:=zH hM
 have HT:=zH hT
 have Z0:Hid (Xb (w.alloc (.cells #[.int .u8 0,.int .u32 0,.slice none 0 0] 117)) w.heap.size (.int .u8 0) (.int .u32 0) (.slice none 0 0)):=Xb.new w _ _ _
 obtain⟨F,hF⟩:∃F,F=Rl.row E nc n d ts p []:=⟨_,rfl⟩
 have HF:=zH hF
 rw [←hF]
 have hpx:x=x.ay p:=by have:=hC.pl;cases x;simp only [Rd.ay] at this ⊢;rw [this]
 have Hpx:=zH hpx
 have zR:=hC.iJ
 clear hF hI hM hC hT hpx
 go_enter Tryz.func126,Tryz.ntmps126
 go_wp2_with fail
 go_loopg [3] ts.length (fun g v wr=>∃(bH:List Rl.Tk) (m pr:Nat) (l:List Rl.Ex),g=bH.length∧In wr rb S (x.ay pr) bH∧Only (·=rb) w wr∧Xb wr w.heap.size (.int .u8 0) (.int .u32 0) (.slice none 0 0)∧Es wr (w.heap.size+1) v l∧pr≤200∧4*bH.length+2≤m∧m≤n∧l.length+bH.length≤ts.length∧Hid (F=Rl.row E nc m d bH pr l))
 case atStart=>exact⟨ts,n,p,[],rfl,by rw [←Hpx.out];exact HI.out.alloc _,(Only.refl (·=rb) w).alloc _,Z0.out,Es.nil _ _,zR,hn,Nat.le_refl _,by simp,HF.out⟩
 case round=>
  obtain⟨bH,m,pr,l,rfl,zm,hOr,QY,hEr,hpr,hm1,hm2,hll,Ej⟩:=hrel
  cases bH with
  | nil=>obtain⟨i,_,h2,_⟩:=zm;exact h2.elim
  | cons t bH=>
   obtain⟨m,rfl⟩:∃k,m=k+1:=⟨m - 1,by omega⟩
   have iT:=zH zm
   have HOr:=zH hOr
   have M_:Hid (Mp wr x.mb E):=HM.out.only hOr HC.out.mb
   have Ua:Hid (Cx nc rb (x.ay pr) pr d):=HC.out.ay hpr
   have PD:=zH QY
   have Ik:=hEr
   have aJ:=Ej.out
   have hlz:=QY.lt
   rw [Je] at aJ
   simp only [List.length_cons] at hm1 hll
   clear zm hOr Ej QY hEr
   by_cases hb:t.bad=true
   ·have HB:=zH hb
    rw [if_pos hb] at aJ
    have HE:=zH aJ
    clear hb aJ Ik
    go_wp2_with (go_at_call 52;refine (iZ rb S _ t bH _ iT.out hS HB.out).mono ?_;rintro e w1 ⟨rfl,ho1⟩)
    refine⟨rfl,?_⟩
    rw [HE.out]
    exact⟨rfl,HOr.out.trans ho1⟩
   ·have HB:=zH hb
    rw [if_neg hb] at aJ
    by_cases hbg:Rl.sS t=true
    ·have QX:=zH hbg
     rw [if_pos hbg] at aJ
     cases hth:Rl.thing E nc m d (t::bH) pr with
     | error f=>
      rw [hth] at aJ
      have HE:=zH aJ
      have T1:=zH hth
      clear hb aJ Ik hth
      go_wp2_with (first |(go_at_call 52;refine (bB rb S _ t bH _ iT.out hS HB.out).mono ?_;rintro e w1 ⟨rfl,az,hs1,he1,ho1⟩;have HI1:Hid (In w1 rb S (x.ay pr) (t::bH)):=⟨_,az,hs1,by omega⟩;clear az hs1) |(go_at_call 134;refine (eH t _ (by omega)).mono ?_;rintro e w2 ⟨rfl,ho2⟩;have HI2:Hid (In w2 rb S (x.ay pr) (t::bH)):=HI1.out.only ho2 (fun h=>h);have aK:Hid (Only (·=rb) wr w2):=ho1.trans (ho2.mono (fun _ h=>h.elim))) |(go_at_call 136;have hc:=HT.out m (by omega) d pr (x.ay pr) t bH _ HI2.out (M_.out.only aK.out HC.out.mb) Ua.out HB.out QX.out (by omega);rw [T1.out] at hc;refine hc.mono ?_;clear hc;rintro e w3 ⟨rfl,ho3⟩))
      refine⟨rfl,?_⟩
      rw [HE.out]
      exact⟨rfl,HOr.out.trans (aK.out.trans ho3)⟩
     | ok r=>
      obtain⟨e1,bK,p1⟩:=r
      rw [hth] at aJ
      have T1:=zH hth
      have hln:=(Rl.bF E nc m).2.2.2 _ _ _ _ _ _ hth hpr
      simp only [List.length_cons] at hln aJ
      cases hof:Rl.often e1 bK with
      | error f=>
       rw [hof] at aJ
       have HE:=zH aJ
       have T2:=zH hof
       clear hb aJ Ik hth hof
       go_wp2_with (first |(go_at_call 52;refine (bB rb S _ t bH _ iT.out hS HB.out).mono ?_;rintro e w1 ⟨rfl,az,hs1,he1,ho1⟩;have HI1:Hid (In w1 rb S (x.ay pr) (t::bH)):=⟨_,az,hs1,by omega⟩;clear az hs1) |(go_at_call 134;refine (eH t _ (by omega)).mono ?_;rintro e w2 ⟨rfl,ho2⟩;have HI2:Hid (In w2 rb S (x.ay pr) (t::bH)):=HI1.out.only ho2 (fun h=>h);have aK:Hid (Only (·=rb) wr w2):=ho1.trans (ho2.mono (fun _ h=>h.elim));have hl2:=aK.out.size) |(go_at_call 136;have hc:=HT.out m (by omega) d pr (x.ay pr) t bH _ HI2.out (M_.out.only aK.out HC.out.mb) Ua.out HB.out QX.out (by omega);rw [T1.out] at hc;refine hc.mono ?_;clear hc;rintro e w3 ⟨v3,rfl,Nc,dQ,ho3⟩;have HI3:=zH dQ;have HT3:=zH Nc;clear dQ Nc) |(go_at_call 135;have hc:=wI rb S (x.ay p1) (fun b=>w2.heap.size≤b) e1 v3 bK _ HI3.out hS HT3.out (fun b hb=>by omega);rw [T2.out] at hc;refine hc.mono ?_;clear hc;rintro e w4 ⟨rfl,bI⟩))
       refine⟨rfl,?_⟩
       rw [HE.out]
       exact⟨rfl,HOr.out.trans (aK.out.trans (ho3.trans bI))⟩
      | ok r=>
       obtain⟨e2,dC⟩:=r
       rw [hof] at aJ
       have HE:=zH aJ
       have T2:=zH hof
       have UM:=Rl.qN hof
       obtain⟨xs,hown,dw⟩:=Ik
       have jr:=zH hown
       have QZ:=zH dw
       clear hb aJ hth hof hown dw
       go_wp2_with (first |(go_at_call 52;refine (bB rb S _ t bH _ iT.out hS HB.out).mono ?_;rintro e w1 ⟨rfl,az,hs1,he1,ho1⟩;have HI1:Hid (In w1 rb S (x.ay pr) (t::bH)):=⟨_,az,hs1,by omega⟩;clear az hs1) |(go_at_call 134;refine (eH t _ (by omega)).mono ?_;rintro e w2 ⟨rfl,ho2⟩;have HI2:Hid (In w2 rb S (x.ay pr) (t::bH)):=HI1.out.only ho2 (fun h=>h);have aK:Hid (Only (·=rb) wr w2):=ho1.trans (ho2.mono (fun _ h=>h.elim));have hl2:=aK.out.size) |(go_at_call 136;have hc:=HT.out m (by omega) d pr (x.ay pr) t bH _ HI2.out (M_.out.only aK.out HC.out.mb) Ua.out HB.out QX.out (by omega);rw [T1.out] at hc;refine hc.mono ?_;clear hc;rintro e w3 ⟨v3,rfl,Nc,dQ,ho3⟩;have HI3:=zH dQ;have HT3:=zH Nc;clear dQ Nc;have hl3:=ho3.size) |(go_at_call 135;have hc:=wI rb S (x.ay p1) (fun b=>w2.heap.size≤b) e1 v3 bK _ HI3.out hS HT3.out (fun b hb=>by omega);rw [T2.out] at hc;refine hc.mono ?_;clear hc;rintro e w4 ⟨v4,rfl,Q0,nH,bI⟩;obtain⟨o,s,a,k,c,rfl⟩:=Q0.form;have HI4:=zH nH;have YE:=zH Q0;clear nH Q0;have eD:Hid (Only (·=rb) wr w4):=aK.out.trans (ho3.trans bI);have hl4:=eD.out.size;have o_:Hid (w4.ownsRow (w.heap.size+1) 117 3 u3 l.length xs):=ai jr.out eD.out (fun g hg=>by omega);have Jf:Hid (fM w4 (Kb (w.heap.size+1) u3) l (fun j=>xs[j]?)):=QZ.out.keep (fun b hb hl=>⟨hb,eD.out.block b hl (by have:=hb.1;omega)⟩)) |(at_builtin;refine wpList_append_own_at _ rfl _ _ 83 rfl (w.heap.size+1) 117 i0 (.agg #[.int .u8 0,.int .u32 0,.slice none 0 0]) 3 32 Tryz.underlying83 hi hz0 hz1 hz2 rfl (by decide) _ _ _ rfl (o_.out.alloc _) ⟨w4.heap.size,0,none⟩ 1 1 [.int .u8 o,.int .u32 s,.slice a k c] rfl rfl (tC _ _ _ _) (o8 _ _ _ _ _) (by unfold maxLen;omega) (by omega) (by simp;omega) ?_;intro v5 w5 hown5 hg5 _ jT))
       go_roundg dC.length
       case measure=>simp only [List.length_cons];omega
       case rel=>
        have sI:Only (·=rb) w w5:=by
         refine⟨hg5.os.trans (HOr.out.trans eD.out).os,hg5.tape.trans (HOr.out.trans eD.out).tape,hg5.output.trans (HOr.out.trans eD.out).output,Nat.le_trans (Nat.le_trans (HOr.out.trans eD.out).size (by simp)) hg5.size,fun g hgl hgn=>?_⟩
         have hlw:=(HOr.out.trans eD.out).size
         rw [hg5.block g (by simp;omega) (fun e=>by have:=(o_.out.lt g e.symm).1;omega),Below.heap_alloc _ _ _ (by omega)]
         exact (HOr.out.trans eD.out).block g hgl hgn
        have hk5:∀g,g < w4.heap.size→g < w.heap.size+1→w5.heap[g]?=w4.heap[g]?:=fun g h1 h2=>by
         rw [hg5.block g (by simp;omega) (fun e=>by have:=(o_.out.lt g e.symm).1;omega),Below.heap_alloc _ _ _ (by omega)]
        obtain⟨i4,fC,hs4,hi4⟩:=HI4.out
        refine⟨dC,m,p1,l++[e2],rfl,⟨i4,(hk5 rb fC.lt (by omega)).trans fC,hs4,hi4⟩,sI,(hk5 w.heap.size (by omega) (by omega)).trans (PD.out.only eD.out (by omega)),?_,hln.2,by omega,by omega,by simp;omega,HE.out⟩
        refine Es.snoc o_.out Jf.out YE.out (fun b hb=>⟨by omega,fun e=>?_⟩) hown5 hg5 jT
        have:=(jr.out.lt b e).2
        omega
    ·have YF:Rl.sS t=false:=by simpa using hbg
     have QX:=zH YF
     rw [if_neg hbg] at aJ
     have HE:=zH aJ
     clear hb aJ hbg
     have Nf:=zH Ik
     obtain⟨xs,hown,dw⟩:=Ik
     match l,Nf,HE,hown,dw with
     | [],Nf,HE,hown,dw=>
      obtain⟨a,cap,rfl⟩:=ah hown
      clear hown dw
      go_wp2_with (first |(go_at_call 52;refine (bB rb S _ t bH _ iT.out hS HB.out).mono ?_;rintro e w1 ⟨rfl,az,hs1,he1,ho1⟩;have HI1:Hid (In w1 rb S (x.ay pr) (t::bH)):=⟨_,az,hs1,by omega⟩;clear az hs1) |(go_at_call 134;refine (eH t _ (by omega)).mono ?_;rintro e w2 ⟨rfl,ho2⟩;have HI2:Hid (In w2 rb S (x.ay pr) (t::bH)):=HI1.out.only ho2 (fun h=>h);have aK:Hid (Only (·=rb) wr w2):=ho1.trans (ho2.mono (fun _ h=>h.elim));have Z2:Hid (Xb w2 w.heap.size (.int .u8 0) (.int .u32 0) (.slice none 0 0)):=PD.out.only aK.out (by omega);have z0:=Z2.out.c0;have z1:=Z2.out.c1;have z2:=Z2.out.c2;have wJ:=Z2.out.fz 0;have wK:=Z2.out.fz 1;have wL:=Z2.out.fz 2))
      refine bodyPost_ret (v:=.agg #[.int .u8 0,.int .u32 0,.slice none 0 0]) (aI rfl _ rfl (Z2.out.aV _ _ _)) rfl ?_
      rw [HE.out]
      exact⟨_,rfl,Tr.leaf _ _ _ _,HI2.out.aV (z:=w.heap.size) (by omega) _ _ _,(HOr.out.trans aK.out).aV (z:=w.heap.size) (Nat.le_refl _) _ _ _⟩
     | [e1],Nf,HE,hown,dw=>
      obtain⟨o,s,k,rfl,hT1⟩:=dw.one hown.1
      obtain⟨g,cap,rfl,hgb,hgl,hcap,hcells⟩:=ax hown (by simp)
      have HT1:=zH hT1
      have k0:wr.cell? ⟨g,0,none⟩=some o:=hcells 0 (by simp)
      have k1:wr.cell? ⟨g,1,none⟩=some s:=hcells 1 (by simp)
      have k2:wr.cell? ⟨g,2,none⟩=some k:=hcells 2 (by simp)
      have K0:=zH k0
      have K1:=zH k1
      have K2:=zH k2
      obtain⟨op,st,a,n',c',hform⟩:=hT1.form
      simp only [Value.agg.injEq,Array.mk.injEq,List.cons.injEq,and_true] at hform
      obtain⟨rfl,rfl,rfl⟩:=hform
      clear hown dw hcells k0 k1 k2 hT1
      go_wp2_with (first |(go_at_call 52;refine (bB rb S _ t bH _ iT.out hS HB.out).mono ?_;rintro e w1 ⟨rfl,az,hs1,he1,ho1⟩;have HI1:Hid (In w1 rb S (x.ay pr) (t::bH)):=⟨_,az,hs1,by omega⟩;clear az hs1) |(go_at_call 134;refine (eH t _ (by omega)).mono ?_;rintro e w2 ⟨rfl,ho2⟩;have HI2:Hid (In w2 rb S (x.ay pr) (t::bH)):=HI1.out.only ho2 (fun h=>h);have aK:Hid (Only (·=rb) wr w2):=ho1.trans (ho2.mono (fun _ h=>h.elim));have Z2:Hid (Xb w2 w.heap.size (.int .u8 0) (.int .u32 0) (.slice none 0 0)):=PD.out.only aK.out (by omega);have z0:=Z2.out.c0;have z1:=Z2.out.c1;have z2:=Z2.out.c2;have wJ:=Z2.out.fz 0;have wK:=Z2.out.fz 1;have wL:=Z2.out.fz 2;have j0:=(World.cell?_of_block (a:=⟨g,0,none⟩) (aK.out.block g hgl (by omega))).trans K0.out;have j1:=(World.cell?_of_block (a:=⟨g,1,none⟩) (aK.out.block g hgl (by omega))).trans K1.out;have j2:=(World.cell?_of_block (a:=⟨g,2,none⟩) (aK.out.block g hgl (by omega))).trans K2.out))
      refine bodyPost_ret (v:=.agg #[.int .u8 op,.int .u32 st,.slice a n' c']) (aI rfl _ rfl (Z2.out.aV _ _ _)) rfl ?_
      rw [HE.out]
      refine⟨_,rfl,?_,HI2.out.aV (z:=w.heap.size) (by omega) _ _ _,(HOr.out.trans aK.out).aV (z:=w.heap.size) (Nat.le_refl _) _ _ _⟩
      refine HT1.out.keep fun b hb hl=>⟨by have:=hb.1;omega,?_⟩
      exact (dI w2 (z:=w.heap.size) _ _ _ (by have:=hb.1;omega)).trans (aK.out.block b hl (by have:=hb.1;omega))
     | e1::e2::l2,Nf,HE,hown,dw=>
      obtain⟨a,cap,rfl⟩:=ah hown
      have q0:(((e1::e2::l2).length:Int)==0)=false:=by simp;omega
      have q1:(((e1::e2::l2).length:Int)==1)=false:=by simp;omega
      have xX:=zH hown
      have Jg:=zH dw
      clear hown dw
      generalize hL:e1::e2::l2=L at *
      have HL:=zH hL
      clear hL
      go_wp2_with (first |(go_at_call 52;refine (bB rb S _ t bH _ iT.out hS HB.out).mono ?_;rintro e w1 ⟨rfl,az,hs1,he1,ho1⟩;have HI1:Hid (In w1 rb S (x.ay pr) (t::bH)):=⟨_,az,hs1,by omega⟩;clear az hs1) |(go_at_call 134;refine (eH t _ (by omega)).mono ?_;rintro e w2 ⟨rfl,ho2⟩;have HI2:Hid (In w2 rb S (x.ay pr) (t::bH)):=HI1.out.only ho2 (fun h=>h);have aK:Hid (Only (·=rb) wr w2):=ho1.trans (ho2.mono (fun _ h=>h.elim));have Z2:Hid (Xb w2 w.heap.size (.int .u8 0) (.int .u32 0) (.slice none 0 0)):=PD.out.only aK.out (by omega);have z0:=Z2.out.c0;have z1:=Z2.out.c1;have z2:=Z2.out.c2;have wJ:=Z2.out.fz 0;have wK:=Z2.out.fz 1;have wL:=Z2.out.fz 2))
      refine bodyPost_ret (v:=.agg #[.int .u8 2,.int .u32 0,.slice a L.length cap]) (aI rfl _ rfl (Z2.out.aV _ _ _)) rfl ?_
      have hmk:Rl.mkSeq L=.mk 2 0 L:=by rw [←HL.out];rfl
      rw [HE.out,hmk]
      refine⟨_,rfl,?_,HI2.out.aV (z:=w.heap.size) (by omega) _ _ _,(HOr.out.trans aK.out).aV (z:=w.heap.size) (Nat.le_refl _) _ _ _⟩
      have hT:=Tr.row (F':=fun b=>w.heap.size+1≤b) 2 xX.out Jg.out (fun g hg=>(xX.out.lt g hg).1) (fun b hb=>hb.1) (by rw [←HL.out];simp)
      refine hT.keep fun b hb hl=>⟨by omega,?_⟩
      exact (dI w2 (z:=w.heap.size) _ _ _ (by omega)).trans (aK.out.block b hl (by omega))
end Go.Proofs.YtdlabakleldgaaaGreatDoor
