/- Wa Wb Wc -/
import Derived.Test.YtdlabakleldgaaaGreatDoorZ00
import Derived.Test.YtdlabakleldgaaaGreatDoorZ01
import Derived.Deep.LoopGhost
import Derived.Test.YtdlabakleldgaaaGreatDoorZ08
import Derived.Test.YtdlabakleldgaaaGreatDoorZ09
import Derived.Test.YtdlabakleldgaaaGreatDoorZ14
set_option linter.unusedVariables false
set_option linter.unusedSimpArgs false
set_option maxRecDepth 100000
set_option maxHeartbeats 8000000
namespace Go.Proofs.YtdlabakleldgaaaGreatDoor.W
open Go.RowKit
structure Px where
 vC:Value
 j:Int
 a:Int
 vT:Value
 vL:Value
 vN:Value
 vB:Value
structure Ps where
 i:Nat
 pl:Int
 dp:Int
 c:Int
 t:Int
def pc (S:ByteArray) (x:Px) (s:Ps):Array Value:=#[.string S,.int .i64 (s.i:Int),x.vC,.int .u32 x.j,.int .u32 x.a,x.vT,x.vL,x.vN,x.vB,.int .i64 s.pl,.int .i64 s.dp,.int .i64 s.c,.int .i64 s.t]
def Pp (w:World) (rb:Nat) (S:ByteArray) (x:Px) (s:Ps):Prop:=w.heap[rb]?=some (.cells (pc S x s) 67 (0,0))∧s.i≤S.size
section
variable {w:World} {rb:Nat} {S:ByteArray} {x:Px} {s:Ps}
theorem Pp.c (h:Pp w rb S x s) (k:Nat) {v:Value} (hv:(pc S x s)[k]?=some v):w.cell? ⟨rb,k,none⟩=some v:=(cell_of_row _ _ _ _ _ _ h.1).trans hv
theorem Pp.c0 (h:Pp w rb S x s):w.cell? ⟨rb,0,none⟩=some (.string S):=h.c 0 rfl
theorem Pp.c1 (h:Pp w rb S x s):w.cell? ⟨rb,1,none⟩=some (.int .i64 (s.i:Int)):=h.c 1 rfl
theorem Pp.c2 (h:Pp w rb S x s):w.cell? ⟨rb,2,none⟩=some (x.vC):=h.c 2 rfl
theorem Pp.c3 (h:Pp w rb S x s):w.cell? ⟨rb,3,none⟩=some (.int .u32 x.j):=h.c 3 rfl
theorem Pp.c4 (h:Pp w rb S x s):w.cell? ⟨rb,4,none⟩=some (.int .u32 x.a):=h.c 4 rfl
theorem Pp.c5 (h:Pp w rb S x s):w.cell? ⟨rb,5,none⟩=some (x.vT):=h.c 5 rfl
theorem Pp.c6 (h:Pp w rb S x s):w.cell? ⟨rb,6,none⟩=some (x.vL):=h.c 6 rfl
theorem Pp.c7 (h:Pp w rb S x s):w.cell? ⟨rb,7,none⟩=some (x.vN):=h.c 7 rfl
theorem Pp.c8 (h:Pp w rb S x s):w.cell? ⟨rb,8,none⟩=some (x.vB):=h.c 8 rfl
theorem Pp.c9 (h:Pp w rb S x s):w.cell? ⟨rb,9,none⟩=some (.int .i64 s.pl):=h.c 9 rfl
theorem Pp.c10 (h:Pp w rb S x s):w.cell? ⟨rb,10,none⟩=some (.int .i64 s.dp):=h.c 10 rfl
theorem Pp.c11 (h:Pp w rb S x s):w.cell? ⟨rb,11,none⟩=some (.int .i64 s.c):=h.c 11 rfl
theorem Pp.c12 (h:Pp w rb S x s):w.cell? ⟨rb,12,none⟩=some (.int .i64 s.t):=h.c 12 rfl
theorem Pp.lt (h:Pp w rb S x s):rb < w.heap.size:=(Array.getElem?_eq_some_iff.1 h.1).1
theorem Pp.fz (h:Pp w rb S x s) (k:Nat):w.frozen? ⟨rb,k,none⟩=false:=by simp [World.frozen?,h.1]
theorem Pp.only {w':World} {P:Nat→Prop} (h:Pp w rb S x s) (ho:Only P w w') (hn:¬ P rb):Pp w' rb S x s:=⟨(ho.block rb h.lt hn).trans h.1,h.2⟩
theorem Pp.alloc (h:Pp w rb S x s) (o:Obj):Pp (w.alloc o) rb S x s:=⟨(Below.heap_alloc _ _ _ h.lt).trans h.1,h.2⟩
theorem Pp.OM (h:Pp w rb S x s) (k:Nat) (hk:k≤S.size):Pp (w.setCell ⟨rb,1,none⟩ (.int .i64 (k:Int))) rb S x { s with i:=k}:=⟨aa h.1 _,hk⟩
theorem Pp.Qk (h:Pp w rb S x s) (p:Int):Pp (w.setCell ⟨rb,9,none⟩ (.int .i64 p)) rb S x { s with pl:=p}:=⟨aa h.1 _,h.2⟩
theorem Pp.LF (h:Pp w rb S x s) (p:Int):Pp (w.setCell ⟨rb,10,none⟩ (.int .i64 p)) rb S x { s with dp:=p}:=⟨aa h.1 _,h.2⟩
theorem Pp.aat (h:Pp w rb S x s) (p q:Int):Pp ((w.setCell ⟨rb,11,none⟩ (.int .i64 p)).setCell ⟨rb,12,none⟩ (.int .i64 q)) rb S x { s with c:=p,t:=q}:=⟨aa (aa h.1 _) _,h.2⟩
end
theorem bX {w w':World} {rb:Nat} (h:Only (·=rb) w w') (k:Nat) (v:Value):Only (·=rb) w (w'.setCell ⟨rb,k,none⟩ v):=h.setCell (p:=⟨rb,k,none⟩) rfl _
def Le (s s':Ps):Prop:=s.i≤s'.i∧(s'.c=0→s.c=0)∧s'.pl=s.pl∧s'.dp=s.dp
theorem Le.refl (s:Ps):Le s s:=⟨Nat.le_refl _,fun h=>h,rfl,rfl⟩
theorem Le.trans {s s' s2:Ps} (h:Le s s') (k:Le s' s2):Le s s2:=⟨Nat.le_trans h.1 k.1,fun e=>h.2.1 (k.2.1 e),k.2.2.1.trans h.2.2.1,k.2.2.2.trans h.2.2.2⟩
def Post (rb:Nat) (S:ByteArray) (x:Px) (s:Ps) (w:World) (V:Value→Ps→Prop) (e:Ending) (w':World):Prop:=∃v s',e=.returned v∧Pp w' rb S x s'∧Le s s'∧V v s'∧Only (·=rb) w w'
theorem dH (rb:Nat) (S:ByteArray) (x:Px) (s:Ps) (c a:Int) (w:World) (h:Pp w rb S x s) (hc:c≠0):
  Calls Tryz.prog 40 #[.pointer (some ⟨rb,0,none⟩),.int .i64 c,.int .i64 a] w (Post rb S x s w fun v s'=>v=.tuple #[]∧s'.c≠0∧s'.i=s.i):=by
 have d11:=h.c11
 have d12:=h.c12
 have f11:=h.fz 11
 have f12:=h.fz 12
 have H:=zH h
 by_cases h0:s.c=0
 ·have q:(s.c==0)=true:=by simpa using h0
  clear h
  go_enter Tryz.func40,Tryz.ntmps40
  go_wp2_with fail
  go_end0
  exact⟨_,_,rfl,H.out.aat c a,⟨Nat.le_refl _,fun e=>absurd e hc,rfl,rfl⟩,⟨rfl,hc,rfl⟩,bX (bX (Only.refl _ _) _ _) _ _⟩
 ·have q:(s.c==0)=false:=by simpa using h0
  clear h
  go_enter Tryz.func40,Tryz.ntmps40
  go_wp2_with fail
  go_end0
  exact⟨_,_,rfl,H.out,Le.refl _,⟨rfl,h0,rfl⟩,Only.refl _ _⟩
theorem bO (c:UInt8) (w:World):Calls Tryz.prog 39 #[.int .u8 (c.toNat:Int)] w fun e w'=>e=.returned (.bool (Rl.sw c))∧w'=w:=by
 obtain⟨n,hn⟩:∃n:Int,n=(c.toNat:Int):=⟨_,rfl⟩
 have HN:=zH hn
 have h0:0≤n:=by omega
 have h1:n < 256:=by have:=IK c;omega
 rw [←hn]
 clear hn
 go_enter Tryz.func39,Tryz.ntmps39
 go_wp2
 all_goals
  go_ret
  have hn:=HN.out
  subst hn
  refine⟨congrArg (fun b=>Ending.returned (.bool b)) (?_:_=Rl.sw c),rfl⟩
  rw [Bool.eq_iff_iff]
  simp [Rl.sw]
  try omega
def LG (S:ByteArray) (v:Value) (s':Ps):Prop:=∃b:UInt8,v=.int .u8 (b.toNat:Int)∧(b≠0→s'.c=0∧∃h:s'.i < S.size,S[s'.i]=b)
theorem qd (rb:Nat) (S:ByteArray) (x:Px) (s:Ps) (w:World) (h:Pp w rb S x s) (hS:S.size≤4096):
  Calls Tryz.prog 22 #[.pointer (some ⟨rb,0,none⟩)] w (Post rb S x s w (LG S)):=by
 have H0:=zH h
 clear h
 go_enter Tryz.func22,Tryz.ntmps22
 go_wp2_with fail
 go_loopg [] (if s.c=0 then S.size+1 - s.i else 0) (fun g wr=>∃s',Pp wr rb S x s'∧Le s s'∧Only (·=rb) w wr∧g=if s'.c=0 then S.size+1 - s'.i else 0)
 case atStart=>exact⟨s,H0.out,Le.refl _,Only.refl _ _,rfl⟩
 case round=>
  obtain⟨s',hR,hLe,hO,hg⟩:=hrel
  have d0:=hR.c0
  have d1:=hR.c1
  have d11:=hR.c11
  have f1:=hR.fz 1
  have hi2:=hR.2
  have HR:=zH hR
  have HO:=zH hO
  have HL:=zH hLe
  clear hR hO hLe
  by_cases hc:s'.c=0
  ·have q:(s'.c==0)=true:=by simpa using hc
   have HC:=zH hc
   rw [if_pos hc] at hg
   subst hg
   clear hc
   by_cases hlt:s'.i < S.size
   ·have t1:(s'.i:Int) <(S.size:Int):=by omega
    have t2:decide ((s'.i:Int) <(S.size:Int))=true:=decide_eq_true t1
    have hu:=IK S[s'.i]
    by_cases QC:S[s'.i].toNat=35
    ·have q35:((S[s'.i].toNat:Int)==35)=true:=by simp;omega
     have H35:=zH QC
     clear QC
     go_wp2_with fail
     go_quiet (fail)
     go_wp2_with fail
     go_quiet (fail)
     go_wp2_with fail
     go_loopg [] (S.size - s'.i) (fun g wi=>∃m:Nat,g=S.size - m∧s'.i≤m∧m≤S.size∧Pp wi rb S x { s' with i:=m}∧Only (·=rb) w wi)
     case atStart=>exact⟨s'.i,rfl,Nat.le_refl _,hi2,HR.out,HO.out.drewN _⟩
     case round=>
      obtain⟨m,rfl,P6,hmS,zq,MO⟩:=hrel
      clear d0 d1 d11 f1
      have d0:=zq.c0
      have d1:World.cell? _ ⟨rb,1,none⟩=some (.int .i64 (m:Int)):=zq.c1
      have f1:=zq.fz 1
      have MP:=zH zq
      have Ty:=zH MO
      clear zq MO
      by_cases g_:m < S.size
      ·have t3:(m:Int) <(S.size:Int):=by omega
       have t4:decide ((m:Int) <(S.size:Int))=true:=decide_eq_true t3
       by_cases c10:S[m].toNat=10
       ·have XD:((S[m].toNat:Int) !=10)=false:=by simp;omega
        have H10:=zH c10
        clear c10
        go_wp2_with fail
        go_quiet (fail)
        go_wp2_with fail
        go_roundg (S.size+1 - m)
        case measure=>
         have hne:m≠s'.i:=by
          rintro rfl
          have:=H10.out
          have:=H35.out
          omega
         omega
        case rel=>exact⟨{ s' with i:=m},MP.out,HL.out.trans ⟨P6,fun e=>e,rfl,rfl⟩,Ty.out.drewN _,(if_pos HC.out).symm⟩
       ·have XD:((S[m].toNat:Int) !=10)=true:=by simp;omega
        clear c10
        go_wp2_with fail
        go_quiet (fail)
        go_wp2_with fail
        go_roundg (S.size -(m+1))
        case measure=>omega
        case rel=>exact⟨m+1,rfl,by omega,by omega,MP.out.OM (m+1) (by omega),bX (Ty.out.drewN _) _ _⟩
      ·have t3:¬(m:Int) <(S.size:Int):=by omega
       have t4:decide ((m:Int) <(S.size:Int))=false:=decide_eq_false t3
       go_wp2_with fail
       go_quiet (fail)
       go_wp2_with fail
       go_roundg (S.size+1 - m)
       case measure=>omega
       case rel=>exact⟨{ s' with i:=m},MP.out,HL.out.trans ⟨P6,fun e=>e,rfl,rfl⟩,Ty.out.drewN _,(if_pos HC.out).symm⟩
    ·have q35:((S[s'.i].toNat:Int)==35)=false:=by simp;omega
     by_cases cb:S[s'.i].toNat=32∨S[s'.i].toNat=9∨S[s'.i].toNat=10∨S[s'.i].toNat=13
     ·obtain⟨n,hn⟩:∃n:Int,n=(S[s'.i].toNat:Int):=⟨_,rfl⟩
      have hnb:n=32∨n=9∨n=10∨n=13:=by omega
      clear cb QC
      rw [←hn] at q35
      go_wp2_with fail
      go_quiet (fail)
      go_wp2_with fail
      go_quiet (fail)
      rw [←hn]
      clear hn hu
      rcases hnb with rfl | rfl | rfl | rfl
      all_goals
       go_wp2_with fail
       go_roundg (S.size+1 -(s'.i+1))
       case measure=>omega
       case rel=>exact⟨{ s' with i:=s'.i+1},HR.out.OM (s'.i+1) (by omega),HL.out.trans ⟨Nat.le_succ _,fun e=>e,rfl,rfl⟩,bX (HO.out.drewN _) _ _,(if_pos HC.out).symm⟩
     ·have q32:((S[s'.i].toNat:Int)==32)=false:=by simp;omega
      have q9:((S[s'.i].toNat:Int)==9)=false:=by simp;omega
      have XD:((S[s'.i].toNat:Int)==10)=false:=by simp;omega
      have q13:((S[s'.i].toNat:Int)==13)=false:=by simp;omega
      have HV:Hid (LG S (.int .u8 (S[s'.i].toNat:Int)) s'):=(⟨_,rfl,fun _=>⟨HC.out,hlt,rfl⟩⟩:LG S (.int .u8 (S[s'.i].toNat:Int)) s')
      clear QC cb
      go_wp2_with fail
      go_quiet (fail)
      go_wp2_with fail
      go_quiet (fail)
      go_wp2_with fail
      go_loopg [5] 13 (fun g u wi=>∃(m:Nat) (W:World),W=wi∧g=13 - m∧m≤13∧u=.int .i64 (m:Int)∧Pp W rb S x s'∧Only (·=rb) w W)
      case atStart=>exact⟨0,_,rfl,rfl,by omega,rfl,HR.out,HO.out.drewN _⟩
      case round=>
       obtain⟨m,W,hW,rfl,abD,rfl,zq,MO⟩:=hrel
       subst hW
       by_cases hlm:m < 13
       ·have t3:(m:Int) < 13:=by omega
        have t4:decide ((m:Int) < 13)=true:=decide_eq_true t3
        obtain⟨z,hz⟩:∃z:Int,z=((⟨#[40,41,91,93,94,124,42,43,63,46,59,47,61]⟩:ByteArray)[m]'(hlm)).toNat:=⟨_,rfl⟩
        by_cases he:z=(S[s'.i].toNat:Int)
        ·have q:((((⟨#[40,41,91,93,94,124,42,43,63,46,59,47,61]⟩:ByteArray)[m]'(hlm)).toNat:Int)==(S[s'.i].toNat:Int))=true:=by rw [←hz];simpa using he
         clear he hz
         go_wp2_with fail
         go_ret
         exact⟨_,s',rfl,zq,HL.out,HV.out,MO⟩
        ·have q:((((⟨#[40,41,91,93,94,124,42,43,63,46,59,47,61]⟩:ByteArray)[m]'(hlm)).toNat:Int)==(S[s'.i].toNat:Int))=false:=by rw [←hz];simpa using he
         clear he hz
         go_wp2_with fail
         go_roundg (13 -(m+1))
         case measure=>omega
         case rel=>exact⟨m+1,_,rfl,rfl,by omega,by go_num,zq,MO⟩
       ·obtain rfl:m=13:=by omega
        have MP:=zH zq
        have e0:=zq.c0
        have e1:=zq.c1
        clear zq d0 d1 d11
        cases hl:Rl.sw S[s'.i] with
        | true=>
         go_wp2_with (go_at_call 39;refine (bO _ _).mono ?_;rintro e w2 ⟨rfl,hw2⟩;have hw2:=hw2.symm;subst hw2;rw [hl])
         go_ret
         exact⟨_,s',rfl,MP.out,HL.out,HV.out,MO⟩
        | false=>
         go_wp2_with (first |(go_at_call 39;refine (bO _ _).mono ?_;rintro e w2 ⟨rfl,hw2⟩;have hw2:=hw2.symm;subst hw2;rw [hl]) |(go_at_call 40;refine (dH rb S x s' _ _ _ MP.out (by decide)).mono ?_;rintro e w3 ⟨_,s3,rfl,cz,hL3,⟨rfl,hc3,_⟩,ho3⟩))
         go_roundg 0
         case measure=>omega
         case rel=>exact⟨s3,cz,HL.out.trans hL3,MO.trans ho3,(if_neg hc3).symm⟩
   ·have t1:¬(s'.i:Int) <(S.size:Int):=by omega
    have t2:decide ((s'.i:Int) <(S.size:Int))=false:=decide_eq_false t1
    go_wp2_with fail
    go_quiet (fail)
    go_wp2_with fail
    go_ret
    exact⟨_,s',rfl,HR.out,HL.out,⟨0,rfl,fun h=>absurd rfl h⟩,HO.out.drewN _⟩
  ·have q:(s'.c==0)=false:=by simpa using hc
   go_wp2_with fail
   go_quiet (fail)
   go_wp2_with fail
   go_ret
   exact⟨_,s',rfl,HR.out,HL.out,⟨0,rfl,fun h=>absurd rfl h⟩,HO.out.drewN _⟩
end Go.Proofs.YtdlabakleldgaaaGreatDoor.W
namespace Go.Proofs.YtdlabakleldgaaaGreatDoor.W
open Go.RowKit Go.Maps
theorem WY (B:ByteArray):∃u:Rl.Str,B=bs u:=⟨B.data.toList,rfl⟩
theorem dx (c:UInt8) (hc:c≠0) (rb:Nat) (S:ByteArray) (x:Px) (s:Ps) (w:World) (h:Pp w rb S x s) (hS:S.size≤4096):
  Calls Tryz.prog 42 #[.pointer (some ⟨rb,0,none⟩),.int .u8 (c.toNat:Int)] w (Post rb S x s w fun v s'=>∃b,v=.bool b∧(b=true→s'.c=0∧s.i < s'.i)):=by
 have H:=zH h
 have HC:=zH hc
 clear h hc
 go_enter Tryz.func42,Tryz.ntmps42
 go_wp2_with fail
 refine Calls.mono (qd rb S x s _ H.out hS) ?_
 rintro e w1 ⟨_,s1,rfl,az,hL1,⟨b,rfl,hb⟩,ho1⟩
 have d1:=az.c1
 have d11:=az.c11
 have f1:=az.fz 1
 have hi:=az.2
 have H1:Hid (Pp w1 rb S x s1∧Le s s1∧Only (·=rb) w w1):=⟨az,hL1,ho1⟩
 by_cases q1:s1.c=0
 ·have z1:(s1.c !=0)=false:=by simpa using q1
  by_cases q2:b=c
  ·subst q2
   have z2:((b.toNat:Int) !=(b.toNat:Int))=false:=by simp
   obtain⟨h0,hlt,_⟩:=hb HC.out
   have HB:Hid (s1.c=0∧s.i≤s1.i):=⟨q1,hL1.1⟩
   clear az hL1 ho1 hb q1 h0
   go_wp2_with fail
   go_ret
   exact⟨_,{ s1 with i:=s1.i+1},rfl,H1.out.1.OM (s1.i+1) (by omega),H1.out.2.1.trans ⟨Nat.le_succ _,fun e=>e,rfl,rfl⟩,⟨true,rfl,fun _=>⟨HB.out.1,Nat.lt_succ_of_le HB.out.2⟩⟩,bX H1.out.2.2 _ _⟩
  ·have z2:((b.toNat:Int) !=(c.toNat:Int))=true:=by
    simp only [bne_iff_ne,ne_eq]
    intro e
    exact q2 (UInt8.toNat_inj.1 (by omega))
   clear az hL1 ho1 hb q1 q2
   go_wp2_with fail
   go_ret
   exact⟨_,s1,rfl,H1.out.1,H1.out.2.1,⟨false,rfl,nofun⟩,H1.out.2.2⟩
 ·have z1:(s1.c !=0)=true:=by simpa using q1
  clear az hL1 ho1 hb q1
  go_wp2_with fail
  go_ret
  exact⟨_,s1,rfl,H1.out.1,H1.out.2.1,⟨false,rfl,nofun⟩,H1.out.2.2⟩
theorem aU (c:UInt8) (hc:c≠0) (rb:Nat) (S:ByteArray) (x:Px) (s:Ps) (w:World) (h:Pp w rb S x s) (hS:S.size≤4096):
  Calls Tryz.prog 45 #[.pointer (some ⟨rb,0,none⟩),.int .u8 (c.toNat:Int)] w (Post rb S x s w fun v s'=>v=.tuple #[]):=by
 have H:=zH h
 clear h
 go_enter Tryz.func45,Tryz.ntmps45
 go_wp2_with fail
 refine Calls.mono (dx c hc rb S x s _ H.out hS) ?_
 rintro e w1 ⟨_,s1,rfl,az,hL1,⟨b,rfl,hb⟩,ho1⟩
 have d1:=az.c1
 have H1:Hid (Pp w1 rb S x s1∧Le s s1∧Only (·=rb) w w1):=⟨az,hL1,ho1⟩
 have lw:=az.lt
 clear az hL1 ho1 hb
 cases b
 ·go_wp2_with fail
  refine Calls.mono (dH rb S x s1 _ _ _ H1.out.1 (by decide)) ?_
  rintro e w2 ⟨_,s2,rfl,hR2,hL2,⟨rfl,_⟩,ho2⟩
  go_wp2_with fail
  go_end0
  exact⟨_,s2,rfl,hR2,H1.out.2.1.trans hL2,rfl,H1.out.2.2.trans ho2⟩
 ·go_wp2_with fail
  go_end0
  exact⟨_,s1,rfl,H1.out.1,H1.out.2.1,rfl,H1.out.2.2⟩
def Ql (s:Ps) (v:Value) (s':Ps):Prop:=∃(u:Rl.Str) (a:Int),v=.tuple #[.string (bs u),.int .i64 a]∧(s'.c=0→s.i < s'.i)
theorem qf (rb:Nat) (S:ByteArray) (x:Px) (s:Ps) (w:World) (h:Pp w rb S x s) (hS:S.size≤4096):
  Calls Tryz.prog 41 #[.pointer (some ⟨rb,0,none⟩)] w (Post rb S x s w (Ql s)):=by
 have H:=zH h
 clear h
 go_enter Tryz.func41,Tryz.ntmps41
 go_wp2_with fail
 refine Calls.mono (qd rb S x s _ H.out hS) ?_
 rintro e w1 ⟨_,s1,rfl,az,hL1,⟨b,rfl,hb⟩,ho1⟩
 have d1:=az.c1
 have d11:=az.c11
 have hi:=az.2
 have hsi:=hL1.1
 have H1:Hid (Pp w1 rb S x s1∧Le s s1∧Only (·=rb) w w1):=⟨az,hL1,ho1⟩
 clear az hL1 ho1
 by_cases q1:s1.c=0
 ·have z1:(s1.c==0)=true:=by simpa using q1
  have z2:(s1.c !=0)=false:=by simpa using q1
  cases hl:Rl.sw b with
  | true=>
   have hb0:b≠0:=by rintro rfl;exact absurd hl (by decide)
   obtain⟨_,hlt,hbe⟩:=hb hb0
   have HN:Hid (Rl.sw S[s1.i]=true):=by rw [hbe];exact hl
   have HQ:=zH q1
   clear hb hb0 q1 hbe
   go_wp2_with (go_at_call 39;refine (bO _ _).mono ?_;rintro e w2 ⟨rfl,hw2⟩;have hw2:=hw2.symm;subst hw2;rw [hl])
   clear hl
   go_loopg [] (S.size - s1.i) (fun g wr=>∃(m:Nat) (W:World),W=wr∧g=S.size - m∧s1.i≤m∧m≤S.size∧Pp W rb S x { s1 with i:=m}∧Only (·=rb) w W)
   case atStart=>exact⟨s1.i,_,rfl,rfl,Nat.le_refl _,hi,H1.out.1,H1.out.2.2⟩
   case round=>
    obtain⟨m,W,hW,rfl,hm1,hm2,zq,MO⟩:=hrel
    subst hW
    clear d1 d11
    have e0:=zq.c0
    have e1:W.cell? ⟨rb,1,none⟩=some (.int .i64 (m:Int)):=zq.c1
    have f1:=zq.fz 1
    have MP:=zH zq
    have Ty:=zH MO
    clear zq MO
    obtain⟨u,hu⟩:=WY (S.extract s1.i m)
    have HU:=zH hu
    clear hu
    by_cases hlt2:m < S.size
    ·have t1:(m:Int) <(S.size:Int):=by omega
     have t2:decide ((m:Int) <(S.size:Int))=true:=decide_eq_true t1
     by_cases hc:Rl.sw S[m]=true
     ·go_wp2_with fail
      go_quiet ((go_at_call 39;exact Calls.quiet_of_same (bO _ _)))
      rw [hc]
      clear hc
      go_wp2_with fail
      go_roundg (S.size -(m+1))
      case measure=>omega
      case rel=>exact⟨m+1,_,rfl,rfl,by omega,by omega,MP.out.OM (m+1) (by omega),bX (Ty.out.drewN _) _ _⟩
     ·have hc2:Rl.sw S[m]=false:=by simpa using hc
      have HM:Hid (s.i < m):=by
       show s.i < m
       by_cases e:m=s1.i
       ·exfalso
        have:=HN.out
        subst e
        exact hc this
       ·omega
      clear hc
      go_wp2_with fail
      go_quiet ((go_at_call 39;exact Calls.quiet_of_same (bO _ _)))
      rw [hc2]
      clear hc2
      have hle:(s1.i:Int)≤(m:Int):=by omega
      have hle2:(m:Int)≤(S.size:Int):=by omega
      go_wp2_with fail
      go_quiet (fail)
      go_wp2_with fail
      go_ret2
      exact⟨_,{ s1 with i:=m},rfl,MP.out,H1.out.2.1.trans ⟨hm1,fun e=>e,rfl,rfl⟩,⟨u,_,by rw [←HU.out];rfl,fun _=>HM.out⟩,(Ty.out.drewN _).drewN _⟩
    ·have t1:¬(m:Int) <(S.size:Int):=by omega
     have t2:decide ((m:Int) <(S.size:Int))=false:=decide_eq_false t1
     have hle:(s1.i:Int)≤(m:Int):=by omega
     have hle2:(m:Int)≤(S.size:Int):=by omega
     go_wp2_with fail
     go_quiet (fail)
     go_wp2_with fail
     go_quiet (fail)
     go_wp2_with fail
     go_ret2
     exact⟨_,{ s1 with i:=m},rfl,MP.out,H1.out.2.1.trans ⟨hm1,fun e=>e,rfl,rfl⟩,⟨u,_,by rw [←HU.out];rfl,fun _=>show s.i < m by omega⟩,(Ty.out.drewN _).drewN _⟩
  | false=>
   clear hb
   go_wp2_with (go_at_call 39;refine (bO _ _).mono ?_;rintro e w2 ⟨rfl,hw2⟩;have hw2:=hw2.symm;subst hw2;rw [hl])
   refine Calls.mono (dH rb S x s1 _ _ _ H1.out.1 (by decide)) ?_
   rintro e w2 ⟨_,s2,rfl,hR2,hL2,⟨rfl,hc2,_⟩,ho2⟩
   clear d11
   have d11:=hR2.c11
   have z3:(s2.c !=0)=true:=by simpa using hc2
   have H2:Hid (Pp w2 rb S x s2∧Le s s2∧Only (·=rb) w w2∧s2.c≠0):=⟨hR2,H1.out.2.1.trans hL2,H1.out.2.2.trans ho2,hc2⟩
   clear hR2 hL2 ho2 hc2 z1 z2
   go_wp2_with fail
   go_ret2
   exact⟨_,s2,rfl,H2.out.1,H2.out.2.1,⟨[],_,rfl,fun e=>absurd e H2.out.2.2.2⟩,H2.out.2.2.1⟩
 ·have z1:(s1.c==0)=false:=by simpa using q1
  have z2:(s1.c !=0)=true:=by simpa using q1
  have HQ:=zH q1
  clear q1 hb
  go_wp2_with fail
  go_ret2
  exact⟨_,s1,rfl,H1.out.1,H1.out.2.1,⟨[],_,rfl,fun e=>absurd e HQ.out⟩,H1.out.2.2⟩
def LH (l:List Int):List Value:=l.map (Value.int .u32)
structure Dn (w:World) (rb:Nat) (x:Px) (N:List Rl.Str) (B:List Int):Prop where
 nm:w.ownsRow (rb+1) 9 1 x.vN N.length (strs N)
 bt:w.ownsRow (rb+1) 32 1 x.vB B.length (LH B)
 bl:B.length=N.length
 le:N.length≤5000
theorem Dn.only {w w':World} {rb:Nat} {x:Px} {N:List Rl.Str} {B:List Int} (h:Dn w rb x N B) (ho:Only (·=rb) w w'):Dn w' rb x N B:=⟨ai h.nm ho (fun g hg=>by omega),ai h.bt ho (fun g hg=>by omega),h.bl,h.le⟩
theorem Be (u:Rl.Str) (rb:Nat) (S:ByteArray) (x:Px) (s:Ps) (N:List Rl.Str) (B:List Int) (w:World) (h:Pp w rb S x s) (hD:Dn w rb x N B):
  Calls Tryz.prog 61 #[.pointer (some ⟨rb,0,none⟩),.string (bs u)] w fun e w'=>∃k:Int,e=.returned (.int .i64 k)∧-1≤k∧k <(N.length:Int)∧w'=w:=by
 have hv:=hD.nm
 have hl:=hD.le
 obtain⟨a,cap,J7⟩:=ah hv
 rw [J7] at hv
 have d7:=h.c7
 rw [J7] at d7
 have Hv:=zH hv
 have ht:=bZ u
 obtain⟨n,hn⟩:∃n,n=N.length:=⟨_,rfl⟩
 have Hn:=zH hn
 rw [←hn] at hl d7
 clear hv J7 hD h hn
 go_enter Tryz.func61,Tryz.ntmps61
 go_wp2_with fail
 go_loopg [5] n (fun g i wr=>∃k:Nat,g=n - k∧k≤n∧i=.int .i64 (k:Int)∧w=wr)
 case atStart=>exact⟨0,rfl,Nat.zero_le _,rfl,rfl⟩
 case round=>
  obtain⟨k,rfl,hk,rfl,rfl⟩:=hrel
  by_cases hlt:k < n
  ·have t1:(k:Int) <(n:Int):=by omega
   obtain⟨c,hc⟩:∃c,N[k]?=some c:=⟨N[k]'(by rw [←Hn.out];omega),List.getElem?_eq_getElem _⟩
   obtain⟨g,cap',hv',hgb,hgl,hcap,hcells⟩:=ax Hv.out (by rw [←Hn.out];omega)
   have e0:a=some ⟨g,0,none⟩:=by injection hv'
   have d0:w.cell? ⟨g,k,none⟩=some (.string (bs c)):=by
    rw [hcells k (by rw [←Hn.out];omega)]
    unfold strs
    rw [List.getElem?_map,hc];rfl
   have htc:=bZ c
   subst e0
   clear hc hv' hcells
   by_cases he:c=u
   ·have q:(c==u)=true:=by simp [he]
    clear he
    go_wp2
    go_ret
    exact⟨_,rfl,by omega,by rw [←Hn.out];exact t1,rfl⟩
   ·have q:(c==u)=false:=by simpa using he
    clear he
    go_wp2
    go_roundg (n -(k+1))
    case measure=>omega
    case rel=>exact⟨k+1,rfl,by omega,by go_num,rfl⟩
  ·have t2:decide ((k:Int) <(n:Int))=false:=decide_eq_false (by omega)
   go_wp2
   go_ret
   exact⟨_,rfl,by omega,by rw [←Hn.out];omega,rfl⟩
def WZ (s:Ps) (v:Value) (s':Ps):Prop:=∃b:Int,v=.int .u32 b∧(s'.c=0→s.i < s'.i)
theorem xx (rb:Nat) (S:ByteArray) (x:Px) (s:Ps) (N:List Rl.Str) (B:List Int) (w:World) (h:Pp w rb S x s) (hS:S.size≤4096) (hD:Dn w rb x N B):
  Calls Tryz.prog 62 #[.pointer (some ⟨rb,0,none⟩)] w (Post rb S x s w (WZ s)):=by
 have H:Hid (Pp w rb S x s∧Dn w rb x N B):=⟨h,hD⟩
 clear h hD
 go_enter Tryz.func62,Tryz.ntmps62
 go_wp2_with fail
 refine Calls.mono (qf rb S x s _ H.out.1 hS) ?_
 rintro e w1 ⟨_,s1,rfl,az,hL1,⟨u,a,rfl,hp1⟩,ho1⟩
 have d11:=az.c11
 have HD1:Hid (Dn w1 rb x N B):=H.out.2.only ho1
 obtain⟨aB,cB,hvB⟩:=ah HD1.out.bt
 have d8:=az.c8
 rw [hvB] at d8
 have hbl:=HD1.out.bl
 have W9:=zH hvB
 have H1:Hid (Pp w1 rb S x s1∧Le s s1∧Only (·=rb) w w1∧(s1.c=0→s.i < s1.i)):=⟨az,hL1,ho1,hp1⟩
 clear az hL1 ho1 hp1 hvB
 by_cases q1:s1.c=0
 ·have z1:(s1.c !=0)=false:=by simpa using q1
  clear q1
  go_wp2_with fail
  refine Calls.mono (Be u rb S x s1 N B _ H1.out.1 HD1.out) ?_
  rintro e w2 ⟨k,rfl,hk1,hk2,hw2⟩
  have hw2:=hw2.symm
  subst hw2
  by_cases hk:k < 0
  ·have t1:decide (k < 0)=true:=decide_eq_true hk
   go_wp2_with fail
   refine Calls.mono (dH rb S x s1 _ _ _ H1.out.1 (by decide)) ?_
   rintro e w3 ⟨_,s3,rfl,cz,hL3,⟨rfl,hc3,_⟩,ho3⟩
   go_wp2_with fail
   go_ret
   exact⟨_,s3,rfl,cz,H1.out.2.1.trans hL3,⟨_,rfl,fun e=>absurd e hc3⟩,H1.out.2.2.1.trans ho3⟩
  ·have t1:decide (k < 0)=false:=decide_eq_false hk
   obtain⟨m,rfl⟩:∃m:Nat,k=(m:Int):=⟨k.toNat,by omega⟩
   have hm:m < B.length:=by omega
   obtain⟨g,cap',hv',hgb,hgl,hcap,hcells⟩:=ax HD1.out.bt (by omega)
   rw [W9.out] at hv'
   have e0:aB=some ⟨g,0,none⟩:=by injection hv'
   have c0:w1.cell? ⟨g,m,none⟩=some (.int .u32 B[m]):=by
    rw [hcells m (by omega)]
    unfold LH
    rw [List.getElem?_map,List.getElem?_eq_getElem hm];rfl
   subst e0
   have t3:(m:Int) <(B.length:Int):=by omega
   clear hv' hcells hk
   go_wp2_with fail
   go_ret
   exact⟨_,s1,rfl,H1.out.1,H1.out.2.1,⟨_,rfl,H1.out.2.2.2⟩,H1.out.2.2.1⟩
 ·have z1:(s1.c !=0)=true:=by simpa using q1
  have HQ:=zH q1
  clear q1
  go_wp2_with fail
  go_ret
  exact⟨_,s1,rfl,H1.out.1,H1.out.2.1,⟨_,rfl,fun e=>absurd e HQ.out⟩,H1.out.2.2.1⟩
theorem lI (rb:Nat) (S:ByteArray) (x:Px) (s:Ps) (C:List Rl.Str) (w:World) (h:Pp w rb S x s) (hS:S.size≤4096) (hC:w.ownsRow (rb+1) 9 1 x.vC C.length (strs C)) (Nq:C.length≤24):
  Calls Tryz.prog 47 #[.pointer (some ⟨rb,0,none⟩)] w (Post rb S x s w fun v s'=>∃k:Nat,v=.int .i64 (k:Int)∧(s'.c=0→k < C.length∧s.i < s'.i)):=by
 have H:=zH h
 have HC:=zH hC
 clear h hC
 obtain⟨n,hn⟩:∃n,n=C.length:=⟨_,rfl⟩
 have Hn:=zH hn
 rw [←hn] at Nq
 go_enter Tryz.func47,Tryz.ntmps47
 go_wp2_with fail
 refine Calls.mono (qf rb S x s _ H.out hS) ?_
 rintro e w1 ⟨_,s1,rfl,az,hL1,⟨u,a,rfl,hp1⟩,ho1⟩
 have d11:=az.c11
 have K8:Hid (w1.ownsRow (rb+1) 9 1 x.vC C.length (strs C)):=ai HC.out ho1 (fun g hg=>by omega)
 obtain⟨aC,cC,vS⟩:=ah K8.out
 have d2:=az.c2
 rw [vS,←hn] at d2
 have wW:=zH vS
 have ht:=bZ u
 have H1:Hid (Pp w1 rb S x s1∧Le s s1∧Only (·=rb) w w1∧(s1.c=0→s.i < s1.i)):=⟨az,hL1,ho1,hp1⟩
 clear az hL1 ho1 hp1 vS hn
 go_wp2_with fail
 go_loopg [5] n (fun g v wr=>∃(k:Nat) (W:World),W=wr∧g=n - k∧k≤n∧v=.int .i64 (k:Int)∧w1=W)
 case atStart=>exact⟨0,_,rfl,rfl,Nat.zero_le _,rfl,rfl⟩
 case round=>
  obtain⟨k,W,hW,rfl,hk,rfl,hw⟩:=hrel
  subst hW
  subst hw
  by_cases hlt:k < n
  ·have t1:(k:Int) <(n:Int):=by omega
   by_cases q1:s1.c=0
   ·have z1:(s1.c==0)=true:=by simpa using q1
    obtain⟨c,hc⟩:∃c,C[k]?=some c:=⟨C[k]'(by rw [←Hn.out];omega),List.getElem?_eq_getElem _⟩
    obtain⟨g,cap',hv',hgb,hgl,hcap,hcells⟩:=ax K8.out (by rw [←Hn.out];omega)
    rw [wW.out] at hv'
    have e0:aC=some ⟨g,0,none⟩:=by injection hv'
    have d0:w1.cell? ⟨g,k,none⟩=some (.string (bs c)):=by
     rw [hcells k (by rw [←Hn.out];omega)]
     unfold strs
     rw [List.getElem?_map,hc];rfl
    have htc:=bZ c
    subst e0
    have HQ:=zH q1
    clear hc hv' hcells q1
    by_cases he:c=u
    ·have q:(c==u)=true:=by simp [he]
     clear he
     go_wp2_with fail
     go_ret
     exact⟨_,s1,rfl,H1.out.1,H1.out.2.1,⟨k,rfl,fun e=>⟨by rw [←Hn.out];exact hlt,H1.out.2.2.2 e⟩⟩,H1.out.2.2.1⟩
    ·have q:(c==u)=false:=by simpa using he
     clear he
     go_wp2_with fail
     go_roundg (n -(k+1))
     case measure=>omega
     case rel=>exact⟨k+1,_,rfl,rfl,by omega,by go_num,rfl⟩
   ·have z1:(s1.c==0)=false:=by simpa using q1
    clear q1
    go_wp2_with fail
    refine Calls.mono (dH rb S x s1 _ _ _ H1.out.1 (by decide)) ?_
    rintro e w3 ⟨_,s3,rfl,cz,hL3,⟨rfl,hc3,_⟩,ho3⟩
    go_wp2_with fail
    go_ret
    exact⟨_,s3,rfl,cz,H1.out.2.1.trans hL3,⟨0,rfl,fun e=>absurd e hc3⟩,H1.out.2.2.1.trans ho3⟩
  ·have t2:decide ((k:Int) <(n:Int))=false:=decide_eq_false (by omega)
   go_wp2_with fail
   refine Calls.mono (dH rb S x s1 _ _ _ H1.out.1 (by decide)) ?_
   rintro e w3 ⟨_,s3,rfl,cz,hL3,⟨rfl,hc3,_⟩,ho3⟩
   go_wp2_with fail
   go_ret
   exact⟨_,s3,rfl,cz,H1.out.2.1.trans hL3,⟨0,rfl,fun e=>absurd e hc3⟩,H1.out.2.2.1.trans ho3⟩
theorem dm (rb:Nat) (S:ByteArray) (x:Px) (s:Ps) (N:List Rl.Str) (B:List Int) (w:World) (h:Pp w rb S x s) (hS:S.size≤4096) (hD:Dn w rb x N B):
  Calls Tryz.prog 43 #[.pointer (some ⟨rb,0,none⟩)] w (Post rb S x s w (Ql s)):=by
 have H:Hid (Pp w rb S x s∧Dn w rb x N B):=⟨h,hD⟩
 clear h hD
 go_enter Tryz.func43,Tryz.ntmps43
 go_wp2_with fail
 refine Calls.mono (qf rb S x s _ H.out.1 hS) ?_
 rintro e w1 ⟨_,s1,rfl,az,hL1,⟨u,a,rfl,hp1⟩,ho1⟩
 have d11:=az.c11
 have HD1:Hid (Dn w1 rb x N B):=H.out.2.only ho1
 have H1:Hid (Pp w1 rb S x s1∧Le s s1∧Only (·=rb) w w1∧(s1.c=0→s.i < s1.i)):=⟨az,hL1,ho1,hp1⟩
 clear az hL1 ho1 hp1
 by_cases q1:s1.c=0
 ·have z1:(s1.c==0)=true:=by simpa using q1
  clear q1
  go_wp2_with fail
  refine Calls.mono (Be u rb S x s1 N B _ H1.out.1 HD1.out) ?_
  rintro e w2 ⟨k,rfl,hk1,hk2,hw2⟩
  have hw2:=hw2.symm
  subst hw2
  by_cases hk:0≤k
  ·have t1:decide (0≤k)=true:=decide_eq_true hk
   go_wp2_with fail
   refine Calls.mono (dH rb S x s1 _ _ _ H1.out.1 (by decide)) ?_
   rintro e w3 ⟨_,s3,rfl,cz,hL3,⟨rfl,hc3,_⟩,ho3⟩
   go_wp2_with fail
   go_ret2
   exact⟨_,s3,rfl,cz,H1.out.2.1.trans hL3,⟨_,_,rfl,fun e=>absurd e hc3⟩,H1.out.2.2.1.trans ho3⟩
  ·have t1:decide (0≤k)=false:=decide_eq_false hk
   go_wp2_with fail
   go_ret2
   exact⟨_,s1,rfl,H1.out.1,H1.out.2.1,⟨_,_,rfl,H1.out.2.2.2⟩,H1.out.2.2.1⟩
 ·have z1:(s1.c==0)=false:=by simpa using q1
  clear q1
  go_wp2_with fail
  go_ret2
  exact⟨_,s1,rfl,H1.out.1,H1.out.2.1,⟨_,_,rfl,H1.out.2.2.2⟩,H1.out.2.2.1⟩
theorem qg (c:UInt8) (hc:c≠0) (rb:Nat) (S:ByteArray) (x:Px) (s:Ps) (N:List Rl.Str) (B:List Int) (w:World) (h:Pp w rb S x s) (hS:S.size≤4096) (hD:Dn w rb x N B):
  Calls Tryz.prog 46 #[.pointer (some ⟨rb,0,none⟩),.int .u8 (c.toNat:Int)] w (Post rb S x s w fun v s'=>∃b:Int,v=.int .u32 b):=by
 have H:Hid (Pp w rb S x s∧Dn w rb x N B):=⟨h,hD⟩
 clear h hD
 go_enter Tryz.func46,Tryz.ntmps46
 go_wp2_with fail
 go_loopg [5] (if s.c=0 then S.size+1 - s.i else 0) (fun g v wr=>∃(s':Ps) (acc:Int) (W:World),W=wr∧v=.int .u32 acc∧Pp W rb S x s'∧Le s s'∧Only (·=rb) w W∧g=if s'.c=0 then S.size+1 - s'.i else 0)
 case atStart=>exact⟨s,0,_,rfl,rfl,H.out.1,Le.refl _,Only.refl _ _,rfl⟩
 case round=>
  obtain⟨s',acc,W,hW,rfl,hR,hL,ho,hg⟩:=hrel
  subst hW
  have d11:=hR.c11
  have hi:=hR.2
  have HR:Hid (Pp W rb S x s'∧Le s s'∧Only (·=rb) w W):=⟨hR,hL,ho⟩
  clear hR hL ho
  by_cases q1:s'.c=0
  ·have z1:(s'.c==0)=true:=by simpa using q1
   rw [if_pos q1] at hg
   subst hg
   clear q1
   go_wp2_with fail
   refine Calls.mono (dx c hc rb S x s' _ HR.out.1 hS) ?_
   rintro e w1 ⟨_,s1,rfl,az,hL1,⟨b,rfl,hb⟩,ho1⟩
   cases b
   ·have H1:Hid (Pp w1 rb S x s1∧Le s' s1∧Only (·=rb) w w1):=⟨az,hL1,HR.out.2.2.trans ho1⟩
    clear az hL1 ho1 hb
    go_wp2_with fail
    refine Calls.mono (xx rb S x s1 N B _ H1.out.1 hS (H.out.2.only H1.out.2.2)) ?_
    rintro e w2 ⟨_,s2,rfl,hR2,hL2,⟨b2,rfl,hp2⟩,ho2⟩
    have H2:Hid (Pp w2 rb S x s2∧Le s1 s2∧Only (·=rb) w w2∧(s2.c=0→s1.i < s2.i)):=⟨hR2,hL2,H1.out.2.2.trans ho2,hp2⟩
    clear hR2 hL2 ho2 hp2
    go_wp2_with fail
    go_roundg (if s2.c=0 then S.size+1 - s2.i else 0)
    case measure=>
     have h1:=H1.out.2.1.1
     have h2:=H2.out.2.2.2
     split
     ·rename_i e
      have:=h2 e
      omega
     ·omega
    case rel=>exact⟨s2,_,_,rfl,rfl,H2.out.1,HR.out.2.1.trans (H1.out.2.1.trans H2.out.2.1),H2.out.2.2.1,rfl⟩
   ·go_wp2_with fail
    go_ret
    exact⟨_,s1,rfl,az,HR.out.2.1.trans hL1,⟨_,rfl⟩,HR.out.2.2.trans ho1⟩
  ·have z1:(s'.c==0)=false:=by simpa using q1
   clear q1
   go_wp2_with fail
   go_ret
   exact⟨_,s',rfl,HR.out.1,HR.out.2.1,⟨_,rfl⟩,HR.out.2.2⟩
theorem xy (rb:Nat) (S:ByteArray) (x:Px) (s:Ps) (w:World) (h:Pp w rb S x s) (a:Option Addr) (n cap:Nat) (hv:x.vC=.slice a n cap) (hn:n≤24):
  Calls Tryz.prog 125 #[.pointer (some ⟨rb,0,none⟩)] w fun e w'=>∃b:Int,e=.returned (.int .u32 b)∧w'=w:=by
 have d2:=h.c2
 rw [hv] at d2
 clear h
 go_enter Tryz.func125,Tryz.ntmps125
 go_wp2_with fail
 go_ret
 exact⟨_,rfl,rfl⟩
end Go.Proofs.YtdlabakleldgaaaGreatDoor.W
