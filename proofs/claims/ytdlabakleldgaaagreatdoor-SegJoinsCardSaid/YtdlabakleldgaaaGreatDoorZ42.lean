/- Wd2 We Wf -/
import Derived.Test.YtdlabakleldgaaaGreatDoorZ00
import Derived.Test.YtdlabakleldgaaaGreatDoorZ41
import Derived.Test.YtdlabakleldgaaaGreatDoorZ07
import Derived.Deep.CutRange
set_option linter.unusedVariables false
set_option linter.unusedSimpArgs false
set_option maxRecDepth 100000
set_option maxHeartbeats 8000000
namespace Go.Proofs.YtdlabakleldgaaaGreatDoor.W
open Go.RowKit Go.Maps
def oH (s s':Ps):Prop:=s.i≤s'.i∧(s'.c=0→s'.dp=s.dp∧0≤s'.pl∧s'.pl≤200)∧(s.dp≤s'.dp∧s'.dp≤s.dp+1)∧(s.c≠0→s'.dp=s.dp∧s'.c≠0)
theorem oH.trans {s s1 s2:Ps} (h:oH s s1) (k:oH s1 s2):oH s s2:=by
 obtain⟨h1,h2,h3,h4⟩:=h
 obtain⟨k1,k2,k3,k4⟩:=k
 have hc:s2.c=0→s1.c=0:=fun e=>Decidable.byContradiction fun n=>(k4 n).2 e
 refine⟨Nat.le_trans h1 k1,fun e=>⟨(k2 e).1.trans (h2 (hc e)).1,(k2 e).2⟩,?_,fun e=>⟨(k4 (h4 e).2).1.trans (h4 e).1,(k4 (h4 e).2).2⟩⟩
 by_cases e:s1.c=0
 ·have:=(h2 e).1
  omega
 ·have:=(k4 e).1
  omega
theorem Le.Qm {s s':Ps} (h:Le s s') (hp:s.c=0→0≤s.pl∧s.pl≤200):oH s s':=⟨h.1,fun e=>⟨h.2.2.2,by rw [h.2.2.1];exact hp (h.2.1 e)⟩,by rw [h.2.2.2];omega,fun e=>⟨h.2.2.2,fun e2=>e (h.2.1 e2)⟩⟩
def EP (rb:Nat) (S:ByteArray) (x:Px) (s:Ps) (w:World) (V:Ps→Prop) (e:Ending) (w':World):Prop:=∃(o st:Int) (a:Option Addr) (n c:Nat) (s':Ps),e=.returned (.agg #[.int .u8 o,.int .u32 st,.slice a n c])∧Pp w' rb S x s'∧oH s s'∧V s'∧Only (·=rb) w w'
structure En (w:World) (rb:Nat) (x:Px) (N:List Rl.Str) (B:List Int) (s:Ps):Prop where
 d:Dn w rb x N B
 v:∃a n cap,x.vC=.slice a n cap∧n≤24
 p:s.c=0→0≤s.pl∧s.pl≤200
 d0:0≤s.dp∧s.dp≤16
theorem En.only {w w':World} {rb:Nat} {x:Px} {N:List Rl.Str} {B:List Int} {s s':Ps} (h:En w rb x N B s) (ho:Only (·=rb) w w') (hl:oH s s') (hd:0≤s'.dp∧s'.dp≤16):En w' rb x N B s':=⟨h.d.only ho,h.v,fun e=>(hl.2.1 e).2,hd⟩
theorem Pp.aV {w:World} {rb:Nat} {S:ByteArray} {x:Px} {s:Ps} (h:Pp w rb S x s) {z:Nat} (hz:rb≠z) (a b c:Value):Pp (aV w z a b c) rb S x s:=⟨(dI _ _ _ _ hz).trans h.1,h.2⟩
def dD (n:Nat):Prop:=∀(rb:Nat) (S:ByteArray) (x:Px) (s:Ps) (N:List Rl.Str) (B:List Int) (w:World),Pp w rb S x s→S.size≤4096→En w rb x N B s→(s.c=0→16 - s.dp≤(n:Int))→Calls Tryz.prog 63 #[.pointer (some ⟨rb,0,none⟩)] w (EP rb S x s w fun _=>True)
def uj (n:Nat):Prop:=∀(rb:Nat) (S:ByteArray) (x:Px) (s:Ps) (N:List Rl.Str) (B:List Int) (w:World),Pp w rb S x s→S.size≤4096→En w rb x N B s→(s.c=0→16 - s.dp≤(n:Int))→Calls Tryz.prog 84 #[.pointer (some ⟨rb,0,none⟩)] w (EP rb S x s w fun _=>True)
def jq (n:Nat):Prop:=∀(rb:Nat) (S:ByteArray) (x:Px) (s:Ps) (N:List Rl.Str) (B:List Int) (w:World),Pp w rb S x s→S.size≤4096→En w rb x N B s→s.c=0→16 - s.dp≤(n:Int)→Calls Tryz.prog 106 #[.pointer (some ⟨rb,0,none⟩)] w (EP rb S x s w fun s'=>s'.c=0→s.i < s'.i)
theorem zx {w wk:World} {rb:Nat} (ho:Only (·=rb) (w.alloc (.cells #[.int .u8 0,.int .u32 0,.slice none 0 0] 117)) wk) (h:rb < w.heap.size):Xb wk w.heap.size (.int .u8 0) (.int .u32 0) (.slice none 0 0):=(Xb.new w _ _ _).only ho (by omega)
theorem Xf {w:World} {b:Nat} {o s k:Value} (h:Xb w b o s k):w.cell? ⟨b,0,none⟩=some o∧w.cell? ⟨b,1,none⟩=some s∧w.cell? ⟨b,2,none⟩=some k∧w.frozen? ⟨b,0,none⟩=false∧w.frozen? ⟨b,1,none⟩=false∧w.frozen? ⟨b,2,none⟩=false∧b < w.heap.size:=⟨h.c0,h.c1,h.c2,h.fz 0,h.fz 1,h.fz 2,h.lt⟩
theorem EP.fin {rb:Nat} {S:ByteArray} {x:Px} {s sk:Ps} {w wk:World} {V:Ps→Prop} (h:Pp wk rb S x sk) (hl:oH s sk) (hv:V sk) (ho:Only (·=rb) w wk) (hlt:rb < w.heap.size) (o st:Int) (a:Option Addr) (n c:Nat) (u1 u2 u3:Value):EP rb S x s w V (.returned (.agg #[.int .u8 o,.int .u32 st,.slice a n c])) (aV wk w.heap.size u1 u2 u3):=⟨o,st,a,n,c,sk,rfl,h.aV (by omega) _ _ _,hl,hv,ho.aV (Nat.le_refl _) _ _ _⟩
theorem Le.plus {s s1 s2:Ps} (h:Le s s1) (hc:s.c=0) (hp:0≤s.pl∧s.pl+1≤200) (k:Le { s1 with pl:=s.pl+1} s2):oH s s2:=by
 obtain⟨h1,h2,h3,h4⟩:=h
 obtain⟨k1,k2,k3,k4⟩:=k
 simp only at k1 k3 k4
 exact⟨by omega,fun _=>⟨by omega,by omega,by omega⟩,by omega,fun e=>absurd hc e⟩
theorem nJ (n:Nat) (hE:∀m,m < n→dD m):jq n:=by
 intro rb S x s N B w h hS hN hc hn
 have hlt:=h.lt
 have d1:=h.c1
 have hp:=hN.p hc
 have hd:=hN.d0
 obtain⟨w0,hw0⟩:∃w0,w0=w.alloc (.cells #[.int .u8 0,.int .u32 0,.slice none 0 0] 117):=⟨_,rfl⟩
 have H0:Hid (Pp w0 rb S x s∧En w0 rb x N B s∧s.c=0∧Only (·=rb) w w0):=by
  have ho:Only (·=rb) w w0:=by rw [hw0];exact (Only.refl _ _).alloc _
  exact⟨by rw [hw0];exact h.alloc _,⟨hN.d.only ho,hN.v,hN.p,hN.d0⟩,hc,ho⟩
 have HZ:Hid (∀wk,Only (·=rb) w0 wk→Xb wk w.heap.size (.int .u8 0) (.int .u32 0) (.slice none 0 0)):=fun wk ho=>zx (by rw [←hw0];exact ho) hlt
 have HE:=zH hE
 have T9:Hid (w0.heap.size=w.heap.size+1):=by show _=_;rw [hw0];simp
 clear h hN hc hE
 go_enter Tryz.func106,Tryz.ntmps106
 go_wp2_with fail
 rw [←hw0]
 clear d1 hw0
 refine Calls.mono (dx 40 (by decide) rb S x s _ H0.out.1 hS) ?_
 rintro e w1 ⟨_,s1,rfl,az,hL1,⟨b,rfl,hb⟩,ho1⟩
 have hi1:=hL1.1
 have hp1:=hL1.2.2.1
 have hq1:=hL1.2.2.2
 have hsz1:=ho1.size
 have abE:w0.heap.size=w.heap.size+1:=T9.out
 have H1:Hid (Pp w1 rb S x s1∧Le s s1∧Only (·=rb) w0 w1):=⟨az,hL1,ho1⟩
 cases b
 ·have d9:=az.c9
  have f9:=az.fz 9
  rw [hp1] at d9
  clear hb hL1 ho1 az
  by_cases Ce:200 < s.pl+1
  ·have t1:decide (200 < s.pl+1)=true:=decide_eq_true Ce
   go_wp2_with fail
   refine Calls.mono (dH rb S x _ _ _ _ (H1.out.1.Qk (s.pl+1)) (by decide)) ?_
   rintro e w2 ⟨_,s2,rfl,hR2,hL2,⟨rfl,hc2,_⟩,ho2⟩
   have aK:Hid (Only (·=rb) w0 w2):=(bX H1.out.2.2 _ _).trans ho2
   obtain⟨z0,z1,z2,wJ,wK,wL,lz⟩:=Xf (HZ.out _ aK.out)
   have H2:Hid (Pp w2 rb S x s2∧s1.i≤s2.i∧s2.c≠0∧s2.dp=s1.dp):=⟨hR2,hL2.1,hc2,hL2.2.2.2⟩
   clear hR2 hL2 hc2 ho2
   go_wp2_with fail
   refine bodyPost_ret (v:=.agg #[.int .u8 0,.int .u32 0,.slice none 0 0]) (aI rfl _ rfl ((HZ.out _ aK.out).aV _ _ _)) rfl ?_
   exact EP.fin H2.out.1 ⟨Nat.le_trans hi1 H2.out.2.1,fun e=>absurd e H2.out.2.2.1,by have:=H2.out.2.2.2;omega,fun e=>absurd H0.out.2.2.1 e⟩ (fun e=>absurd e H2.out.2.2.1) (H0.out.2.2.2.trans aK.out) hlt _ _ _ _ _ _ _ _
  ·have t1:decide (200 < s.pl+1)=false:=decide_eq_false Ce
   have fJ:Hid (Pp (w1.setCell ⟨rb,9,none⟩ (.int .i64 (s.pl+1))) rb S x { s1 with pl:=s.pl+1}∧Only (·=rb) w0 (w1.setCell ⟨rb,9,none⟩ (.int .i64 (s.pl+1)))):=⟨H1.out.1.Qk _,bX H1.out.2.2 _ _⟩
   have HL:Hid (∀s2,Le { s1 with pl:=s.pl+1} s2→oH s s2):=fun s2 k=>H1.out.2.1.plus H0.out.2.2.1 ⟨hp.1,by omega⟩ k
   go_wp2_with fail
   refine Calls.mono (dx 46 (by decide) rb S x _ _ fJ.out.1 hS) ?_
   rintro e w2 ⟨_,s2,rfl,hR2,hL2,⟨b2,rfl,hb2⟩,ho2⟩
   have H2:Hid (Pp w2 rb S x s2∧Le { s1 with pl:=s.pl+1} s2∧Only (·=rb) w0 w2∧(b2=true→s2.c=0∧s1.i < s2.i)):=⟨hR2,hL2,fJ.out.2.trans ho2,hb2⟩
   clear hR2 hL2 ho2 hb2 d9 f9
   cases b2
   ·go_wp2_with fail
    refine Calls.mono (dx 91 (by decide) rb S x _ _ H2.out.1 hS) ?_
    rintro e w3 ⟨_,s3,rfl,cz,hL3,⟨b3,rfl,hb3⟩,ho3⟩
    have H3:Hid (Pp w3 rb S x s3∧Le { s1 with pl:=s.pl+1} s3∧Only (·=rb) w0 w3∧(b3=true→s3.c=0∧s2.i < s3.i)∧Le s2 s3):=⟨cz,H2.out.2.1.trans hL3,H2.out.2.2.1.trans ho3,hb3,hL3⟩
    clear cz hL3 ho3 hb3
    cases b3
    ·go_wp2_with fail
     refine Calls.mono (xx rb S x _ N B _ H3.out.1 hS (H0.out.2.1.d.only H3.out.2.2.1)) ?_
     rintro e w4 ⟨_,s4,rfl,fC,hL4,⟨b4,rfl,hb4⟩,bI⟩
     have H4:Hid (Pp w4 rb S x s4∧Le { s1 with pl:=s.pl+1} s4∧Only (·=rb) w0 w4∧(s4.c=0→s.i < s4.i)):=⟨fC,H3.out.2.1.trans hL4,H3.out.2.2.1.trans bI,fun e=>by have h1:=hb4 e;have h2:s1.i≤s3.i:=H3.out.2.1.1;omega⟩
     obtain⟨z0,z1,z2,wJ,wK,wL,lz⟩:=Xf (HZ.out _ H4.out.2.2.1)
     clear fC hL4 bI hb4
     go_wp2_with fail
     refine bodyPost_ret (v:=.agg #[.int .u8 1,.int .u32 b4,.slice none 0 0]) (aI rfl _ rfl ((HZ.out _ H4.out.2.2.1).aV _ _ _)) rfl ?_
     exact EP.fin H4.out.1 (HL.out _ H4.out.2.1) H4.out.2.2.2 (H0.out.2.2.2.trans H4.out.2.2.1) hlt _ _ _ _ _ _ _ _
    ·go_wp2_with fail
     refine Calls.mono (dx 94 (by decide) rb S x _ _ H3.out.1 hS) ?_
     rintro e w4 ⟨_,s4,rfl,fC,hL4,⟨b4,rfl,hb4⟩,bI⟩
     have H4:Hid (Pp w4 rb S x s4∧Le s3 s4∧Only (·=rb) w0 w4):=⟨fC,hL4,H3.out.2.2.1.trans bI⟩
     clear fC hL4 bI hb4
     go_wp2_with fail
     refine Calls.mono (qg 93 (by decide) rb S x _ N B _ H4.out.1 hS (H0.out.2.1.d.only H4.out.2.2)) ?_
     rintro e w5 ⟨_,s5,rfl,h_,hL5,⟨b5,rfl⟩,df⟩
     have H5:Hid (Pp w5 rb S x s5∧Le { s1 with pl:=s.pl+1} s5∧Only (·=rb) w0 w5∧(s5.c=0→s.i < s5.i)):=⟨h_,H3.out.2.1.trans (H4.out.2.1.trans hL5),H4.out.2.2.trans df,fun e=>by have h1:=(H3.out.2.2.2.1 trivial).2;have h2:=(H4.out.2.1.trans hL5).1;have h3:s1.i≤s2.i:=H2.out.2.1.1;omega⟩
     obtain⟨z0,z1,z2,wJ,wK,wL,lz⟩:=Xf (HZ.out _ H5.out.2.2.1)
     clear h_ hL5 df
     cases b4
     ·go_wp2_with fail
      refine bodyPost_ret (v:=.agg #[.int .u8 1,.int .u32 b5,.slice none 0 0]) (aI rfl _ rfl ((HZ.out _ H5.out.2.2.1).aV _ _ _)) rfl ?_
      exact EP.fin H5.out.1 (HL.out _ H5.out.2.1) H5.out.2.2.2 (H0.out.2.2.2.trans H5.out.2.2.1) hlt _ _ _ _ _ _ _ _
     ·obtain⟨aC,nC,cC,vS,JV⟩:=H0.out.2.1.v
      go_wp2_with fail
      refine Calls.mono (xy rb S x _ _ H5.out.1 aC nC cC vS JV) ?_
      rintro e w6 ⟨b6,rfl,Gf⟩
      have Gf:=Gf.symm
      subst Gf
      go_wp2_with fail
      refine bodyPost_ret (v:=.agg #[.int .u8 1,.int .u32 (bits .andNot .u32 b6 b5),.slice none 0 0]) (aI rfl _ rfl ((HZ.out _ H5.out.2.2.1).aV _ _ _)) rfl ?_
      exact EP.fin H5.out.1 (HL.out _ H5.out.2.1) H5.out.2.2.2 (H0.out.2.2.2.trans H5.out.2.2.1) hlt _ _ _ _ _ _ _ _
   ·obtain⟨aC,nC,cC,vS,JV⟩:=H0.out.2.1.v
    obtain⟨z0,z1,z2,wJ,wK,wL,lz⟩:=Xf (HZ.out _ H2.out.2.2.1)
    go_wp2_with fail
    refine Calls.mono (xy rb S x _ _ H2.out.1 aC nC cC vS JV) ?_
    rintro e w6 ⟨b6,rfl,Gf⟩
    have Gf:=Gf.symm
    subst Gf
    go_wp2_with fail
    refine bodyPost_ret (v:=.agg #[.int .u8 1,.int .u32 b6,.slice none 0 0]) (aI rfl _ rfl ((HZ.out _ H2.out.2.2.1).aV _ _ _)) rfl ?_
    exact EP.fin H2.out.1 (HL.out _ H2.out.2.1) (fun e=>by have h1:=(H2.out.2.2.2 trivial).2;omega) (H0.out.2.2.2.trans H2.out.2.2.1) hlt _ _ _ _ _ _ _ _
 ·have d10:=az.c10
  have f10:=az.fz 10
  rw [hq1] at d10
  obtain⟨hc1,hi2⟩:=hb rfl
  have K8:Hid (s1.c=0∧s1.pl=s.pl):=⟨hc1,hp1⟩
  clear hb hL1 ho1 az hc1 hp1
  by_cases h16:16 < s.dp+1
  ·have t1:decide (16 < s.dp+1)=true:=decide_eq_true h16
   go_wp2_with fail
   refine Calls.mono (dH rb S x _ _ _ _ (H1.out.1.LF (s.dp+1)) (by decide)) ?_
   rintro e w2 ⟨_,s2,rfl,hR2,hL2,⟨rfl,hc2,_⟩,ho2⟩
   have aK:Hid (Only (·=rb) w0 w2):=(bX H1.out.2.2 _ _).trans ho2
   obtain⟨z0,z1,z2,wJ,wK,wL,lz⟩:=Xf (HZ.out _ aK.out)
   have H2:Hid (Pp w2 rb S x s2∧s1.i≤s2.i∧s2.c≠0∧s2.dp=s.dp+1):=⟨hR2,hL2.1,hc2,hL2.2.2.2⟩
   clear hR2 hL2 hc2 ho2
   go_wp2_with fail
   refine bodyPost_ret (v:=.agg #[.int .u8 0,.int .u32 0,.slice none 0 0]) (aI rfl _ rfl ((HZ.out _ aK.out).aV _ _ _)) rfl ?_
   exact EP.fin H2.out.1 ⟨Nat.le_trans hi1 H2.out.2.1,fun e=>absurd e H2.out.2.2.1,by have:=H2.out.2.2.2;omega,fun e=>absurd H0.out.2.2.1 e⟩ (fun e=>absurd e H2.out.2.2.1) (H0.out.2.2.2.trans aK.out) hlt _ _ _ _ _ _ _ _
  ·have t1:decide (16 < s.dp+1)=false:=decide_eq_false h16
   have fJ:Hid (Pp (w1.setCell ⟨rb,10,none⟩ (.int .i64 (s.dp+1))) rb S x { s1 with dp:=s.dp+1}∧Only (·=rb) w0 (w1.setCell ⟨rb,10,none⟩ (.int .i64 (s.dp+1)))):=⟨H1.out.1.LF _,bX H1.out.2.2 _ _⟩
   have OO:Hid (En (w1.setCell ⟨rb,10,none⟩ (.int .i64 (s.dp+1))) rb x N B { s1 with dp:=s.dp+1}):=⟨H0.out.2.1.d.only fJ.out.2,H0.out.2.1.v,fun _=>by show 0≤s1.pl∧s1.pl≤200;rw [K8.out.2];exact hp,by show 0≤s.dp+1∧s.dp+1≤16;omega⟩
   go_wp2_with fail
   refine Calls.mono (HE.out (n - 1) (by omega) rb S x _ N B _ fJ.out.1 hS OO.out (fun _=>by show 16 -(s.dp+1)≤_;omega)) ?_
   rintro e w2 ⟨o,st,a,k,cp,s2,rfl,hR2,hL2,-,ho2⟩
   obtain⟨u2,hu2⟩:∃u2,u2=w2.alloc (.cells #[.int .u8 o,.int .u32 st,.slice a k cp] 117):=⟨_,rfl⟩
   have H2:Hid (Pp u2 rb S x s2∧oH { s1 with dp:=s.dp+1} s2∧Only (·=rb) w0 u2∧Xb u2 w2.heap.size (.int .u8 o) (.int .u32 st) (.slice a k cp)∧rb < w2.heap.size∧w.heap.size < w2.heap.size):=⟨by rw [hu2];exact hR2.alloc _,hL2,by rw [hu2];exact (fJ.out.2.trans ho2).alloc _,by rw [hu2];exact Xb.new w2 _ _ _,hR2.lt,by have:=(fJ.out.2.trans ho2).size;omega⟩
   clear hR2 hL2 ho2 d10 f10
   go_wp2_with fail
   rw [←hu2]
   clear hu2
   refine Calls.mono (aU 41 (by decide) rb S x _ _ H2.out.1 hS) ?_
   rintro e w3 ⟨_,s3,rfl,cz,hL3,rfl,ho3⟩
   have hdb:s.dp+1≤s3.dp∧s3.dp≤s.dp+2:=by have h1:=H2.out.2.1.2.2.1;have h2:=hL3.2.2.2;simp only at h1;omega
   have d10:=cz.c10
   have f10:=cz.fz 10
   have abF:=H2.out.2.2.2.2.1
   have abG:=H2.out.2.2.2.2.2
   obtain⟨x0,x1,x2,-,-,-,lx⟩:=Xf (H2.out.2.2.2.1.only ho3 (by omega))
   have fK:Hid (Only (·=rb) w0 w3):=H2.out.2.2.1.trans ho3
   have VP:Hid (oH s { s3 with dp:=s3.dp - 1}∧s.i < s3.i):=by
    obtain⟨a1,a2,a3,a4⟩:=H2.out.2.1
    obtain⟨b1,b2,b3,b4⟩:=hL3
    simp only at a1 a2 a3
    refine⟨⟨by show s.i≤s3.i;omega,fun e=>?_,by show s.dp≤s3.dp - 1∧s3.dp - 1≤s.dp+1;omega,fun e=>absurd H0.out.2.2.1 e⟩,by omega⟩
    have:=a2 (b2 e)
    show s3.dp - 1=s.dp∧0≤s3.pl∧s3.pl≤200
    omega
   have QR:Hid (Pp (w3.setCell ⟨rb,10,none⟩ (.int .i64 (s3.dp - 1))) rb S x { s3 with dp:=s3.dp - 1}∧Only (·=rb) w0 (w3.setCell ⟨rb,10,none⟩ (.int .i64 (s3.dp - 1)))):=⟨cz.LF _,bX fK.out _ _⟩
   obtain⟨z0,z1,z2,wJ,wK,wL,lz⟩:=Xf (HZ.out _ fK.out)
   clear cz hL3 ho3
   go_wp2_with fail
   refine bodyPost_ret (v:=.agg #[.int .u8 o,.int .u32 st,.slice a k cp]) (aI rfl _ rfl ((HZ.out _ QR.out.2).aV _ _ _)) rfl ?_
   exact EP.fin QR.out.1 VP.out.1 (fun _=>VP.out.2) (H0.out.2.2.2.trans QR.out.2) hlt _ _ _ _ _ _ _ _
theorem uS {W w':World} {base e size n:Nat} {ob:Obj} {v:Value} {xs:List Value} (hown:W.ownsRow base e size v n xs) (hg:(W.alloc ob).grownBy w' v.ownBlock):∀g,g < W.heap.size→g < base→w'.heap[g]?=W.heap[g]?:=fun g h1 h2=>by
 rw [hg.block g (by simp;omega) (fun e=>by have:=(hown.lt g e.symm).1;omega),Below.heap_alloc _ _ _ (by omega)]
theorem Bf {w W w':World} {rb base e size n:Nat} {ob:Obj} {v:Value} {xs:List Value} (hO:Only (·=rb) w W) (hown:W.ownsRow base e size v n xs) (hb:w.heap.size≤base) (hg:(W.alloc ob).grownBy w' v.ownBlock):Only (·=rb) w w':=by
 have hs:=hO.size
 refine⟨hg.os.trans hO.os,hg.tape.trans hO.tape,hg.output.trans hO.output,Nat.le_trans (Nat.le_trans hs (by simp)) hg.size,fun g hgl hgn=>?_⟩
 exact (uS hown hg g (by omega) (by omega)).trans (hO.block g hgl hgn)
def Qn (k:Nat) (xs:List Value):Prop:=k=1→∃(o s:Int) (a:Option Addr) (q c:Nat),xs=[Value.int .u8 o,.int .u32 s,.slice a q c]
theorem Qn.snoc {w:World} {base e:Nat} {v:Value} {n:Nat} {xs:List Value} {o s:Int} {a:Option Addr} {q c:Nat} (h:w.ownsRow base e 3 v n xs):Qn (n+1) (xs++[.int .u8 o,.int .u32 s,.slice a q c]):=by
 intro hk
 have h0:n=0:=by omega
 have hx:xs=[]:=List.length_eq_zero_iff.1 (by rw [h.1,h0])
 subst hx
 exact⟨_,_,_,_,_,rfl⟩
def Eb (rb:Nat) (S:ByteArray) (x:Px) (W:World) (eb:Nat) (s:Ps) (wc:World):Prop:=∃(o st:Int) (a:Option Addr) (n c:Nat) (s4:Ps),Pp wc rb S x s4∧Le s s4∧Only (·=rb) W wc∧Xb wc eb (.int .u8 o) (.int .u32 st) (.slice a n c)
theorem Eb.put {rb:Nat} {S:ByteArray} {x:Px} {W w4:World} {eb:Nat} {s s4:Ps} {o s' k:Value} {ob:Obj} (h:Pp w4 rb S x s4) (hl:Le s s4) (ho:Only (·=rb) W w4) (hx:Xb w4 eb o s' k) (hb:W.heap.size≤eb) (hr:rb < W.heap.size) (op st:Int) (a:Option Addr) (n c:Nat):Eb rb S x W eb s ((aV w4 eb (.int .u8 op) (.int .u32 st) (.slice a n c)).alloc ob):=⟨op,st,a,n,c,s4,(h.aV (by omega) _ _ _).alloc _,hl,(ho.aV (z:=eb) hb _ _ _).alloc _,(hx.aV _ _ _).alloc _⟩
theorem row_step (n:Nat) (hT:jq n):uj n:=by
 intro rb S x s N B w h hS hN hn
 obtain⟨i0,hi,hz0,hz1,hz2⟩:=info_parts nI
 have hlt:=h.lt
 have H0:Hid (Pp w rb S x s∧En w rb x N B s∧(s.c=0→16 - s.dp≤(n:Int))):=⟨h,hN,hn⟩
 have HT:=zH hT
 clear h hN hn hT
 go_enter Tryz.func84,Tryz.ntmps84
 go_wp2_with fail
 go_loopg [3] (if s.c=0 then S.size+1 - s.i else 0) (fun g v wr=>∃(s':Ps) (k:Nat) (xs:List Value) (W:World),W=wr∧g=(if s'.c=0 then S.size+1 - s'.i else 0)∧Pp W rb S x s'∧oH s s'∧Only (·=rb) w W∧Xb W w.heap.size (.int .u8 0) (.int .u32 0) (.slice none 0 0)∧W.ownsRow (w.heap.size+1) 117 3 v k xs∧Qn k xs∧(s'.c=0→k≤s'.i)∧k≤S.size+1)
 case atStart=>exact⟨s,0,[],_,rfl,rfl,H0.out.1.alloc _,(Le.refl s).Qm H0.out.2.1.p,(Only.refl (·=rb) w).alloc _,Xb.new w _ _ _,⟨rfl,Or.inl ⟨rfl,rfl⟩⟩,nofun,fun _=>Nat.zero_le _,Nat.zero_le _⟩
 case round=>
  obtain⟨s',k,xs,W,hW,hg,hR,hL,hO,hZ,hown,hfm,hk1,hk2⟩:=hrel
  have HG:Hid _:=hg
  clear hg
  subst hW
  have HR:Hid (Pp W rb S x s'∧oH s s'∧Only (·=rb) w W∧Xb W w.heap.size (.int .u8 0) (.int .u32 0) (.slice none 0 0)∧Qn k xs∧(s'.c=0→k≤s'.i)):=⟨hR,hL,hO,hZ,hfm,hk1⟩
  have jr:=zH hown
  have hlr:=hR.lt
  have hlz:=hZ.lt
  have hi':=hR.2
  clear hR hL hO hZ hown hfm hk1
  go_upto_region 3 with (go_at_call 22;refine (qd rb S x s' _ HR.out.1 hS).mono ?_;rintro e w1 ⟨_,s1,rfl,az,hL1,⟨b,rfl,hb⟩,ho1⟩;have d11:=az.c11;have H1:Hid (Pp w1 rb S x s1∧Le s' s1∧Only (·=rb) W w1):=⟨az,hL1,ho1⟩;clear az hL1 ho1 hb)
  go_cut [29] from 6 to 50 (fun v wc=>∃g:Bool,v=.bool g∧w1=wc∧(g=false→s1.c=0))
  case first=>
   by_cases q:s1.c=0
   ·have q0:(s1.c !=0)=false:=by simpa using q
    have HQ:=zH q
    clear q
    cases hl:Rl.sw b with
    | true=>
     go_wp2_with (go_at_call 39;refine (bO b _).mono ?_;rintro e w2 ⟨rfl,hw2⟩;have hw2:=hw2.symm;subst hw2;rw [hl])
     go_meet
     case rel=>exact⟨false,rfl,rfl,fun _=>HQ.out⟩
    | false=>
     by_cases c1:((b.toNat:Int) !=40)=true
     ·by_cases c2:((b.toNat:Int) !=91)=true
      ·by_cases c3:((b.toNat:Int) !=46)=true
       ·go_wp2_with (go_at_call 39;refine (bO b _).mono ?_;rintro e w2 ⟨rfl,hw2⟩;have hw2:=hw2.symm;subst hw2;rw [hl])
        go_meet
        case rel=>exact⟨true,rfl,rfl,nofun⟩
       ·have c3:((b.toNat:Int) !=46)=false:=by simpa using c3
        go_wp2_with (go_at_call 39;refine (bO b _).mono ?_;rintro e w2 ⟨rfl,hw2⟩;have hw2:=hw2.symm;subst hw2;rw [hl])
        go_meet
        case rel=>exact⟨false,rfl,rfl,fun _=>HQ.out⟩
      ·have c2:((b.toNat:Int) !=91)=false:=by simpa using c2
       go_wp2_with (go_at_call 39;refine (bO b _).mono ?_;rintro e w2 ⟨rfl,hw2⟩;have hw2:=hw2.symm;subst hw2;rw [hl])
       go_meet
       case rel=>exact⟨false,rfl,rfl,fun _=>HQ.out⟩
     ·have c1:((b.toNat:Int) !=40)=false:=by simpa using c1
      go_wp2_with (go_at_call 39;refine (bO b _).mono ?_;rintro e w2 ⟨rfl,hw2⟩;have hw2:=hw2.symm;subst hw2;rw [hl])
      go_meet
      case rel=>exact⟨false,rfl,rfl,fun _=>HQ.out⟩
   ·have q0:(s1.c !=0)=true:=by simpa using q
    clear q
    go_wp2_with fail
    go_meet
    case rel=>exact⟨true,rfl,rfl,nofun⟩
  case rest=>
   obtain⟨gg,rfl,rfl,hg1⟩:=hcut
   have JL:Hid (oH s' s1∧oH s s1):=by
    have h1:=H1.out.2.1.Qm (fun e=>(HR.out.2.1.2.1 e).2)
    exact⟨h1,HR.out.2.1.trans h1⟩
   have bu:Hid (Only (·=rb) w w1):=HR.out.2.2.1.trans H1.out.2.2
   have HZ1:Hid (Xb w1 w.heap.size (.int .u8 0) (.int .u32 0) (.slice none 0 0)):=HR.out.2.2.2.1.only H1.out.2.2 (by omega)
   cases gg
   ·have K8:=hg1 rfl
    have OO:Hid (En w1 rb x N B s1∧16 - s1.dp≤(n:Int)∧(s'.c=0)):=by
     have h1:=(JL.out.2.2.1 K8).1
     have h2:=H0.out.2.1.d0
     refine⟨H0.out.2.1.only bu.out JL.out.2 (by omega),?_,H1.out.2.1.2.1 K8⟩
     rw [h1]
     exact H0.out.2.2 (Decidable.byContradiction fun e=>(JL.out.2.2.2.2 e).2 K8)
    have hs1:=H1.out.2.2.size
    go_wp2_with fail
    refine Calls.mono (HT.out rb S x s1 N B w1 H1.out.1 hS OO.out.1 K8 OO.out.2.1) ?_
    rintro e w3 ⟨o,st,a,k3,cp,s3,rfl,cz,hL3,hv3,ho3⟩
    have hs3:=ho3.size
    obtain⟨Vj,hu3⟩:∃z,z=w3.alloc (.cells #[.int .u8 o,.int .u32 st,.slice a k3 cp] 117):=⟨_,rfl⟩
    obtain⟨eb,TA⟩:∃z,z=w3.heap.size:=⟨_,rfl⟩
    have H3:Hid (Pp Vj rb S x s3∧oH s1 s3∧Only (·=rb) W Vj∧Xb Vj eb (.int .u8 o) (.int .u32 st) (.slice a k3 cp)∧(s3.c=0→s1.i < s3.i)):=⟨by rw [hu3];exact cz.alloc _,hL3,by rw [hu3];exact (H1.out.2.2.trans ho3).alloc _,by rw [hu3,TA];exact Xb.new w3 _ _ _,hv3⟩
    have TB:W.heap.size≤eb:=by omega
    clear cz hL3 hv3 ho3 hs3 hs1
    go_upto_if 33 with (go_at_call 42;refine (dx 42 (by decide) rb S x s3 _ (by rw [←hu3];exact H3.out.1) hS).mono ?_;rintro e w4 ⟨_,s4,rfl,fC,hL4,⟨b4,rfl,-⟩,bI⟩;rw [←hu3] at bI;have H4:Hid (Pp w4 rb S x s4∧Le s3 s4∧Only (·=rb) W w4∧Xb w4 eb (.int .u8 o) (.int .u32 st) (.slice a k3 cp)):=⟨fC,hL4,H3.out.2.2.1.trans bI,H3.out.2.2.2.1.only bI (by omega)⟩;clear fC hL4 bI)
    rw [←TA]
    clear hu3 TA
    go_cut [] from 6 to 50 (fun wc=>Eb rb S x W eb s3 wc)
    case first=>
     obtain⟨x0,x1,x2,Yp,Yq,Yr,lx⟩:=Xf H4.out.2.2.2
     cases b4
     ·clear x0 x1 x2 Yp Yq Yr lx
      go_wp2_with fail
      refine Calls.mono (dx 43 (by decide) rb S x s4 _ H4.out.1 hS) ?_
      rintro e w5 ⟨_,s5,rfl,h_,hL5,⟨b5,rfl,-⟩,df⟩
      have H5:Hid (Pp w5 rb S x s5∧Le s3 s5∧Only (·=rb) W w5∧Xb w5 eb (.int .u8 o) (.int .u32 st) (.slice a k3 cp)):=⟨h_,H4.out.2.1.trans hL5,H4.out.2.2.1.trans df,H4.out.2.2.2.only df (by omega)⟩
      clear h_ hL5 df
      obtain⟨x0,x1,x2,Yp,Yq,Yr,lx⟩:=Xf H5.out.2.2.2
      cases b5
      ·clear x0 x1 x2 Yp Yq Yr lx
       go_wp2_with fail
       refine Calls.mono (dx 63 (by decide) rb S x s5 _ H5.out.1 hS) ?_
       rintro e w6 ⟨_,s6,rfl,ui,hL6,⟨b6,rfl,-⟩,qM⟩
       have H6:Hid (Pp w6 rb S x s6∧Le s3 s6∧Only (·=rb) W w6∧Xb w6 eb (.int .u8 o) (.int .u32 st) (.slice a k3 cp)):=⟨ui,H5.out.2.1.trans hL6,H5.out.2.2.1.trans qM,H5.out.2.2.2.only qM (by omega)⟩
       clear ui hL6 qM
       obtain⟨x0,x1,x2,Yp,Yq,Yr,lx⟩:=Xf H6.out.2.2.2
       cases b6
       ·go_wp2_with fail
        go_meet
        case rel=>exact⟨o,st,a,k3,cp,s6,H6.out⟩
       ·go_wp2_with fail
        go_meet
        case rel=>exact Eb.put H6.out.1 H6.out.2.1 H6.out.2.2.1 H6.out.2.2.2 TB hlr _ _ _ _ _
      ·go_wp2_with fail
       go_meet
       case rel=>exact Eb.put H5.out.1 H5.out.2.1 H5.out.2.2.1 H5.out.2.2.2 TB hlr _ _ _ _ _
     ·go_wp2_with fail
      go_meet
      case rel=>exact Eb.put H4.out.1 H4.out.2.1 H4.out.2.2.1 H4.out.2.2.2 TB hlr _ _ _ _ _
    case rest=>
     obtain⟨o6,st6,a6,k6,c6,s6,ui,hL6,qM,hX6⟩:=hcut
     obtain⟨x0,x1,x2,-,-,-,lx⟩:=Xf hX6
     have H6:Hid (Pp wc rb S x s6∧Le s3 s6∧Only (·=rb) W wc):=⟨ui,hL6,qM⟩
     have E_:Hid (wc.ownsRow (w.heap.size+1) 117 3 u3 k xs):=ai jr.out qM (fun g hg=>by omega)
     have hs6:=qM.size
     clear ui hL6 qM hX6
     go_wp2_with (at_builtin;refine wpList_append_own_at _ rfl _ _ 83 rfl (w.heap.size+1) 117 i0 (.agg #[.int .u8 0,.int .u32 0,.slice none 0 0]) 3 32 Tryz.underlying83 hi hz0 hz1 hz2 rfl (by decide) _ _ _ rfl (E_.out.alloc _) ⟨wc.heap.size,0,none⟩ 1 1 [.int .u8 o6,.int .u32 st6,.slice a6 k6 c6] rfl rfl (tC _ _ _ _) (o8 _ _ _ _ _) (by unfold maxLen;omega) (by omega) (by simp;omega) ?_;intro v9 w9 xz Qo _ OP)
     have hle:oH s' s6:=JL.out.1.trans (H3.out.2.1.trans (H6.out.2.1.Qm (fun e=>(H3.out.2.1.2.1 e).2)))
     have hpr:s6.c=0→s'.i < s6.i:=fun e=>by
      have h1:=H3.out.2.2.2.2 (H6.out.2.1.2.1 e)
      have h2:=H6.out.2.1.1
      have h3:=H1.out.2.1.1
      omega
     have hkp:=uS E_.out Qo
     have hk3:=HR.out.2.2.2.2.2 OO.out.2.2
     have W_:=H6.out.1.lt
     go_roundg (if s6.c=0 then S.size+1 - s6.i else 0)
     case measure=>
      rw [HG.out,if_pos OO.out.2.2]
      split
      ·rename_i e
       have:=hpr e
       omega
      ·omega
     case rel=>
      exact⟨s6,k+1,_,_,rfl,rfl,⟨(hkp rb W_ (by omega)).trans H6.out.1.1,H6.out.1.2⟩,HR.out.2.1.trans hle,Bf (HR.out.2.2.1.trans H6.out.2.2) E_.out (by omega) Qo,(hkp w.heap.size (by omega) (by omega)).trans (HR.out.2.2.2.1.only H6.out.2.2 (by omega)),xz,Qn.snoc E_.out,fun e=>by have:=hpr e;omega,by omega⟩
   ·obtain⟨z0,z1,z2,wJ,wK,wL,lz⟩:=Xf HZ1.out
    rcases Nat.lt_or_ge 1 k with hk | hk
    ·obtain⟨a',cap,rfl⟩:=ah jr.out
     have q0:((k:Int)==0)=false:=by simp;omega
     have q1:((k:Int)==1)=false:=by simp;omega
     go_wp2_with fail
     refine bodyPost_ret (v:=.agg #[.int .u8 2,.int .u32 0,.slice a' k cap]) (aI rfl _ rfl (HZ1.out.aV _ _ _)) rfl ?_
     exact EP.fin H1.out.1 JL.out.2 trivial bu.out hlt _ _ _ _ _ _ _ _
    ·rcases Nat.lt_or_ge 0 k with hk0 | hk0
     ·obtain rfl:k=1:=by omega
      obtain⟨o,st,a,q,c,rfl⟩:=HR.out.2.2.2.2.1 rfl
      obtain⟨g,cap,rfl,hgb,hgl,hcap,hcells⟩:=ax jr.out (by omega)
      have hbk:=H1.out.2.2.block g hgl (by omega)
      have j0:w1.cell? ⟨g,0,none⟩=some (.int .u8 o):=(World.cell?_of_block (a:=⟨g,0,none⟩) hbk).trans (hcells 0 (by simp))
      have j1:w1.cell? ⟨g,1,none⟩=some (.int .u32 st):=(World.cell?_of_block (a:=⟨g,1,none⟩) hbk).trans (hcells 1 (by simp))
      have j2:w1.cell? ⟨g,2,none⟩=some (.slice a q c):=(World.cell?_of_block (a:=⟨g,2,none⟩) hbk).trans (hcells 2 (by simp))
      have lg:=Nat.lt_of_lt_of_le hgl H1.out.2.2.size
      clear hcells hbk
      go_wp2_with fail
      refine bodyPost_ret (v:=.agg #[.int .u8 o,.int .u32 st,.slice a q c]) (aI rfl _ rfl (HZ1.out.aV _ _ _)) rfl ?_
      exact EP.fin H1.out.1 JL.out.2 trivial bu.out hlt _ _ _ _ _ _ _ _
     ·obtain rfl:k=0:=by omega
      obtain⟨a',cap,rfl⟩:=ah jr.out
      go_wp2_with fail
      refine bodyPost_ret (v:=.agg #[.int .u8 0,.int .u32 0,.slice none 0 0]) (aI rfl _ rfl (HZ1.out.aV _ _ _)) rfl ?_
      exact EP.fin H1.out.1 JL.out.2 trivial bu.out hlt _ _ _ _ _ _ _ _
theorem Hf (w:World) (base g:Nat) (hg:g=w.heap.size) (hb:base≤g) (o s:Int) (a:Option Addr) (n c:Nat):(w.alloc (.cells #[.int .u8 o,.int .u32 s,.slice a n c] 117)).ownsRow base 117 3 (.slice (some ⟨g,0,none⟩) 1 1) 1 [.int .u8 o,.int .u32 s,.slice a n c]:=by
 subst hg
 exact⟨rfl,Or.inr ⟨_,1,#[.int .u8 o,.int .u32 s,.slice a n c],rfl,hb,heap_alloc_new _ _,Nat.le_refl _,by unfold maxLen;omega,rfl,rfl⟩⟩
theorem kC (n:Nat) (hT:uj n):dD n:=by
 intro rb S x s N B w h hS hN hn
 obtain⟨i0,hi,hz0,hz1,hz2⟩:=info_parts nI
 have hlt:=h.lt
 have H0:Hid (Pp w rb S x s∧En w rb x N B s∧(s.c=0→16 - s.dp≤(n:Int))):=⟨h,hN,hn⟩
 have HT:=zH hT
 have HW0:Hid (Only (·=rb) w (w.alloc (.cells #[.int .u8 0,.int .u32 0,.slice none 0 0] 117))):=(Only.refl _ _).alloc _
 clear h hN hn hT
 go_enter Tryz.func63,Tryz.ntmps63
 go_wp2_with fail
 refine Calls.mono (HT.out rb S x s N B _ (H0.out.1.alloc _) hS (H0.out.2.1.only HW0.out ((Le.refl s).Qm H0.out.2.1.p) H0.out.2.1.d0) H0.out.2.2) ?_
 rintro e w1 ⟨o,st,a,k1,c1,s1,rfl,az,hL1,-,ho1⟩
 have hZ1:=zx ho1 hlt
 have hs1:=ho1.size
 have H1:Hid (Pp w1 rb S x s1∧oH s s1∧Only (·=rb) w w1∧Xb w1 w.heap.size (.int .u8 0) (.int .u32 0) (.slice none 0 0)):=⟨az,hL1,HW0.out.trans ho1,hZ1⟩
 have hsz:w.heap.size+1≤w1.heap.size:=by simpa using hs1
 have hi1:=az.2
 clear az hL1 ho1 hZ1 hs1
 go_wp2_with fail
 go_loopg [4] (if s1.c=0 then S.size+1 - s1.i else 0) (fun g v wr=>∃(s':Ps) (k:Nat) (xs:List Value) (W:World),W=wr∧g=(if s'.c=0 then S.size+1 - s'.i else 0)∧Pp W rb S x s'∧oH s s'∧Only (·=rb) w W∧Xb W w.heap.size (.int .u8 0) (.int .u32 0) (.slice none 0 0)∧W.ownsRow (w.heap.size+1) 117 3 v k xs∧Qn k xs∧0 < k∧(s'.c=0→k≤s'.i+1)∧k≤S.size+2)
 case atStart=>exact⟨s1,1,_,_,rfl,rfl,(H1.out.1.alloc _).alloc _,H1.out.2.1,(H1.out.2.2.1.alloc _).alloc _,(H1.out.2.2.2.alloc _).alloc _,Hf (w1.alloc (.cells #[.int .u8 o,.int .u32 st,.slice a k1 c1] 117)) _ _ (by simp) (by omega) o st a k1 c1,fun _=>⟨_,_,_,_,_,rfl⟩,Nat.one_pos,fun _=>by omega,by omega⟩
 case round=>
  obtain⟨s',k,xs,W,hW,hg,hR,hL,hO,hZ,hown,hfm,hk0,hk1,hk2⟩:=hrel
  have HG:Hid _:=hg
  clear hg
  subst hW
  have HR:Hid (Pp W rb S x s'∧oH s s'∧Only (·=rb) w W∧Xb W w.heap.size (.int .u8 0) (.int .u32 0) (.slice none 0 0)∧Qn k xs∧(s'.c=0→k≤s'.i+1)):=⟨hR,hL,hO,hZ,hfm,hk1⟩
  have jr:=zH hown
  have hlr:=hR.lt
  have hlz:=hZ.lt
  have hi':=hR.2
  clear hR hL hO hZ hown hfm hk1
  go_wp2_with fail
  refine Calls.mono (dx 124 (by decide) rb S x s' _ HR.out.1 hS) ?_
  rintro e w2 ⟨_,s2,rfl,hR2,hL2,⟨b2,rfl,hb2⟩,ho2⟩
  have hi2:=hR2.2
  have H2:Hid (Pp w2 rb S x s2∧Le s' s2∧Only (·=rb) W w2):=⟨hR2,hL2,ho2⟩
  have HL2:Hid (oH s s2):=HR.out.2.1.trans (hL2.Qm (fun e=>(HR.out.2.1.2.1 e).2))
  have aK:Hid (Only (·=rb) w w2):=HR.out.2.2.1.trans ho2
  have HZ2:Hid (Xb w2 w.heap.size (.int .u8 0) (.int .u32 0) (.slice none 0 0)):=HR.out.2.2.2.1.only ho2 (by omega)
  have hs2:=ho2.size
  clear hR2 hL2 ho2
  cases b2
  ·clear hb2
   obtain⟨z0,z1,z2,wJ,wK,wL,lz⟩:=Xf HZ2.out
   rcases Nat.lt_or_ge 1 k with hk | hk
   ·obtain⟨a',cap,rfl⟩:=ah jr.out
    have q1:((k:Int)==1)=false:=by simp;omega
    go_wp2_with fail
    refine bodyPost_ret (v:=.agg #[.int .u8 3,.int .u32 0,.slice a' k cap]) (aI rfl _ rfl (HZ2.out.aV _ _ _)) rfl ?_
    exact EP.fin H2.out.1 HL2.out trivial aK.out hlt _ _ _ _ _ _ _ _
   ·obtain rfl:k=1:=by omega
    obtain⟨o,st,a,q,c,rfl⟩:=HR.out.2.2.2.2.1 rfl
    obtain⟨g,cap,rfl,hgb,hgl,hcap,hcells⟩:=ax jr.out (by omega)
    have hbk:=H2.out.2.2.block g hgl (by omega)
    have j0:w2.cell? ⟨g,0,none⟩=some (.int .u8 o):=(World.cell?_of_block (a:=⟨g,0,none⟩) hbk).trans (hcells 0 (by simp))
    have j1:w2.cell? ⟨g,1,none⟩=some (.int .u32 st):=(World.cell?_of_block (a:=⟨g,1,none⟩) hbk).trans (hcells 1 (by simp))
    have j2:w2.cell? ⟨g,2,none⟩=some (.slice a q c):=(World.cell?_of_block (a:=⟨g,2,none⟩) hbk).trans (hcells 2 (by simp))
    have lg:=Nat.lt_of_lt_of_le hgl H2.out.2.2.size
    clear hcells hbk
    go_wp2_with fail
    refine bodyPost_ret (v:=.agg #[.int .u8 o,.int .u32 st,.slice a q c]) (aI rfl _ rfl (HZ2.out.aV _ _ _)) rfl ?_
    exact EP.fin H2.out.1 HL2.out trivial aK.out hlt _ _ _ _ _ _ _ _
  ·obtain⟨hc2,hp2⟩:=hb2 rfl
   have TC:Hid (s2.c=0∧s'.c=0∧k≤s'.i+1):=⟨hc2,H2.out.2.1.2.1 hc2,HR.out.2.2.2.2.2 (H2.out.2.1.2.1 hc2)⟩
   have OO:Hid (En w2 rb x N B s2∧(s2.c=0→16 - s2.dp≤(n:Int))):=by
    have h1:=(HL2.out.2.1 hc2).1
    have h2:=H0.out.2.1.d0
    refine⟨H0.out.2.1.only aK.out HL2.out (by omega),fun _=>?_⟩
    rw [h1]
    exact H0.out.2.2 (Decidable.byContradiction fun e=>(HL2.out.2.2.2 e).2 hc2)
   clear hb2 hc2
   go_wp2_with fail
   refine Calls.mono (HT.out rb S x s2 N B _ H2.out.1 hS OO.out.1 OO.out.2) ?_
   rintro e w3 ⟨o3,Xa,a3,k3,c3,s3,rfl,cz,hL3,-,ho3⟩
   have H3:Hid (Pp w3 rb S x s3∧oH s s3∧Only (·=rb) W w3∧s2.i≤s3.i):=⟨cz,HL2.out.trans hL3,H2.out.2.2.trans ho3,hL3.1⟩
   have Fa:Hid ((w3.alloc (.cells #[.int .u8 o3,.int .u32 Xa,.slice a3 k3 c3] 117)).ownsRow (w.heap.size+1) 117 3 u4 k xs):=ai jr.out (H3.out.2.2.1.alloc _) (fun g hg=>by omega)
   have hs3:=ho3.size
   have hk5:=TC.out.2.2
   clear cz hL3 ho3
   go_wp2_with (at_builtin;refine wpList_append_own_at _ rfl _ _ 83 rfl (w.heap.size+1) 117 i0 (.agg #[.int .u8 0,.int .u32 0,.slice none 0 0]) 3 32 Tryz.underlying83 hi hz0 hz1 hz2 rfl (by decide) _ _ _ rfl (Fa.out.alloc _) ⟨w3.heap.size+1,0,none⟩ 1 1 [.int .u8 o3,.int .u32 Xa,.slice a3 k3 c3] rfl rfl (by have:=tC (w3.alloc (.cells #[.int .u8 o3,.int .u32 Xa,.slice a3 k3 c3] 117)) o3 Xa (.slice a3 k3 c3);rw [show (w3.alloc (.cells #[.int .u8 o3,.int .u32 Xa,.slice a3 k3 c3] 117)).heap.size=w3.heap.size+1 by simp] at this;exact this) (o8 _ _ _ _ _) (by unfold maxLen;omega) (by omega) (by simp;omega) ?_;intro v9 w9 xz Qo _ OP)
   have hkp:=uS Fa.out Qo
   have abH:=H3.out.1.lt
   have hpr:=H3.out.2.2.2
   go_roundg (if s3.c=0 then S.size+1 - s3.i else 0)
   case measure=>
    rw [HG.out,if_pos TC.out.2.1]
    split <;> omega
   case rel=>exact⟨s3,k+1,_,_,rfl,rfl,⟨(hkp rb (by simp;omega) (by omega)).trans (H3.out.1.alloc _).1,H3.out.1.2⟩,H3.out.2.1,Bf ((HR.out.2.2.1.trans H3.out.2.2.1).alloc _) Fa.out (by omega) Qo,(hkp w.heap.size (by simp;omega) (by omega)).trans ((HR.out.2.2.2.1.only H3.out.2.2.1 (by omega)).alloc _),xz,Qn.snoc Fa.out,Nat.succ_pos _,fun e=>by omega,by omega⟩
theorem nK (n:Nat):dD n:=Nat.strongRecOn n (fun n ih=>kC n (row_step n (nJ n ih)))
end Go.Proofs.YtdlabakleldgaaaGreatDoor.W
