/- V4 -/
import Derived.Test.YtdlabakleldgaaaGreatDoorZ00
import Derived.Test.YtdlabakleldgaaaGreatDoorZ46
set_option linter.unusedVariables false
set_option linter.unusedSimpArgs false
set_option maxRecDepth 100000
set_option maxHeartbeats 8000000
namespace Go.Proofs.YtdlabakleldgaaaGreatDoor
open Go.RowKit Go.Maps
theorem DR (c jo af:Nat) (aT:Option Addr) (nT cT:Nat) (T:List Nat) (aR:Option Addr) (nR cR:Nat) (rs:List Pr) (w:World) (hc:c≤255) (hjo:jo≤255) (hj0:jo≠0) (Jw:af≤255) (hT:Bw w aT nT T) (hR:Rw w aR nR rs):
  Calls Tryz.prog 11 #[jd c jo af aT nT cT aR nR cR] w fun e w'=>e=.returned (.string (bs (Hd.text (1+c % 6) jo af T rs)))∧Only (fun _=>False) w w':=by
 have HT:=zH hT
 have HR:=zH hR
 have HC:=zH hT
 obtain⟨n,hn⟩:∃n,n=1+c % 6:=⟨_,rfl⟩
 have HN:=zH hn
 have hn1:1≤n:=by omega
 have bg:n≤6:=by omega
 rw [←hn]
 have sF:=(Hd.rA n bg).1
 obtain⟨mN,sN,lN⟩:=sz (Hd.names n 255 n)
 have hNl:=Hd.bE n 255 n
 have mNl:mN≤12:=by omega
 have e1:(⟨#[99,108,97,115,115]⟩:ByteArray)++bs (Hd.names n 255 n)=bs (Hd.cat [99,108,97,115,115] (Hd.names n 255 n)):=DL _ _
 have s1:(bs (Hd.cat [99,108,97,115,115] (Hd.names n 255 n))).size=5+mN:=iQ (bf _) sN
 have e2:bs (Hd.cat [99,108,97,115,115] (Hd.names n 255 n))++(⟨#[59,10]⟩:ByteArray)=bs (Hd.first n):=jG _ _
 obtain⟨F,hF⟩:∃F,F=Hd.first n:=⟨_,rfl⟩
 rw [←hF] at e2
 obtain⟨v0,r0,l0⟩:=sz F
 obtain⟨mJ,sJ,lJ⟩:=sz (Hd.names n jo n)
 obtain⟨mA,sA,lA⟩:=sz (Hd.names n af n)
 have f1:bs F++(⟨#[106,111,105,110]⟩:ByteArray)=bs (Hd.cat F [106,111,105,110]):=jG _ _
 obtain⟨F1,hF1⟩:∃Zz,Zz=Hd.cat F [106,111,105,110]:=⟨_,rfl⟩
 rw [←hF1] at f1
 obtain⟨v1,r1,l1⟩:=sz F1
 have f2:bs F1++bs (Hd.names n jo n)=bs (Hd.cat F1 (Hd.names n jo n)):=ek _ _
 obtain⟨F2,hF2⟩:∃Zz,Zz=Hd.cat F1 (Hd.names n jo n):=⟨_,rfl⟩
 rw [←hF2] at f2
 obtain⟨v2,r2,l2⟩:=sz F2
 have f3:bs F2++(⟨#[32,47]⟩:ByteArray)=bs (Hd.cat F2 [32,47]):=jG _ _
 obtain⟨F3,Yt⟩:∃Zz,Zz=Hd.cat F2 [32,47]:=⟨_,rfl⟩
 rw [←Yt] at f3
 obtain⟨v3,r3,l3⟩:=sz F3
 have f4:bs F3++bs (Hd.names n af n)=bs (Hd.cat F3 (Hd.names n af n)):=ek _ _
 obtain⟨F4,Yu⟩:∃Zz,Zz=Hd.cat F3 (Hd.names n af n):=⟨_,rfl⟩
 rw [←Yu] at f4
 obtain⟨v4,r4,l4⟩:=sz F4
 have f5:bs F4++(⟨#[59,10]⟩:ByteArray)=bs (Hd.cat F4 [59,10]):=jG _ _
 obtain⟨F5,hF5⟩:∃Zz,Zz=Hd.cat F4 [59,10]:=⟨_,rfl⟩
 rw [←hF5] at f5
 obtain⟨v5,r5,l5⟩:=sz F5
 have HF5:Hid (F5=Hd.second n jo af):=by show F5=_;unfold Hd.second;rw [if_neg hj0,hF5,Yu,Yt,hF2,hF1,hF]
 have y0:=(Hd.rA n bg).1
 have yJ:=Hd.bE n jo n
 have yA:=Hd.bE n af n
 have x1:v1=v0+4:=by rw [l1,hF1,Hd.bA,l0];rfl
 have x2:v2=v1+mJ:=by rw [l2,hF2,Hd.bA,l1,lJ]
 have x3:v3=v2+2:=by rw [l3,Yt,Hd.bA,l2];rfl
 have x4:v4=v3+mA:=by rw [l4,Yu,Hd.bA,l3,lA]
 have u0:v0≤100:=by rw [l0,hF];omega
 have u1:v1≤100:=by rw [hF] at l0;omega
 have u2:v2≤100:=by rw [hF] at l0;omega
 have u3:v3≤100:=by rw [hF] at l0;omega
 have u4:v4≤100:=by rw [hF] at l0;omega
 have uJ:mJ≤12:=by omega
 have uA:mA≤12:=by omega
 have z4:(⟨#[106,111,105,110]⟩:ByteArray).size=4:=rfl
 have z2:(⟨#[32,47]⟩:ByteArray).size=2:=rfl
 have z2':(⟨#[59,10]⟩:ByteArray).size=2:=rfl
 have p1:(9223372036854775807 < v0+4)=False:=eq_false (by omega)
 have p1':(9223372036854775803 < v0)=False:=eq_false (by omega)
 have p2:(9223372036854775807 < v1+mJ)=False:=eq_false (by omega)
 have p3:(9223372036854775807 < v2+2)=False:=eq_false (by omega)
 have p3':(9223372036854775805 < v2)=False:=eq_false (by omega)
 have p4:(9223372036854775807 < v3+mA)=False:=eq_false (by omega)
 have p5:(9223372036854775807 < v4+2)=False:=eq_false (by omega)
 have p5':(9223372036854775805 < v4)=False:=eq_false (by omega)
 have tj:¬(jo:Int)=0:=by omega
 have tj2:((jo:Int)==0)=false:=by simpa using hj0
 clear x1 x2 x3 x4 l0 l1 l2 l3 l4 l5 lJ lA hF hF1 hF2 Yt Yu hF5 y0 yJ yA
 clear hT hR hn lN hNl sF
 obtain⟨bx,hbx⟩:∃bx,bx=w.alloc (.cells #[.int .u8 (c:Int),.int .u8 (jo:Int),.int .u8 (af:Int),.slice aT nT cT,.slice aR nR cR] 25):=⟨_,rfl⟩
 have Yv:=zH hbx
 have RF:Hid (vF bx w.heap.size c jo af aT nT cT aR nR cR):=by rw [hbx];exact heap_alloc_new w _
 clear hbx
 unfold jd
 go_enter Tryz.func11,Tryz.ntmps11
 go_wp2_with (first |(go_at_call 9;refine (uU c jo af aT nT cT aR nR cR _ hc).mono ?_;rintro e w1 ⟨rfl,ho1⟩;rw [←HN.out];rw [←Yv.out] at ho1;have bu:=zH ho1;have fJ:Hid (vF w1 w.heap.size c jo af aT nT cT aR nR cR):=RF.out.keep ho1;clear ho1) |(go_at_call 19;refine (gY n 255 _ hn1 bg (by omega)).mono ?_;rintro e w2 ⟨rfl,ho2⟩;have iC:Hid (vF w2 w.heap.size c jo af aT nT cT aR nR cR):=fJ.out.keep ho2;have d1:w2.cell? ⟨w.heap.size,1,none⟩=some (.int .u8 (jo:Int)):=iC.out.c1;have d2:=iC.out.c2;have aK:Hid (Only (fun _=>False) bx w2):=bu.out.trans ho2;clear ho2))
 clear d1 d2
 have HKj:Hid (∀w':World,Only (fun _=>False) w2 w'→(w'.cell? ⟨w.heap.size,1,none⟩=some (.int .u8 (jo:Int))∧w'.cell? ⟨w.heap.size,2,none⟩=some (.int .u8 (af:Int)))):=(fun w' ho=>⟨(iC.out.keep ho).c1,(iC.out.keep ho).c2⟩:∀w':World,Only (fun _=>False) w2 w'→(w'.cell? ⟨w.heap.size,1,none⟩=some (.int .u8 (jo:Int))∧w'.cell? ⟨w.heap.size,2,none⟩=some (.int .u8 (af:Int))))
 go_region_held3 (fun w'=>w'.cell? ⟨w.heap.size,1,none⟩=some (.int .u8 (jo:Int))∧w'.cell? ⟨w.heap.size,2,none⟩=some (.int .u8 (af:Int))) ((first | exact HKj.out _ ((Only.refl (fun _=>False) w2).drew) | exact HKj.out _ bI | exact HKj.out _ ho3)) ((first |(go_at_call 19;have hgd:=ho3;refine (gY n af _ hn1 bg Jw).mono ?_;clear hgd;rintro en w4 ⟨rfl,LQ⟩;have bI:Only (fun _=>False) w2 w4:=ho3.trans LQ;clear LQ) |(go_at_call 19;refine (gY n jo _ hn1 bg hjo).mono ?_;rintro en w3 ⟨rfl,LU⟩;have ho3:Only (fun _=>False) w2 w3:=((Only.refl (fun _=>False) w2).drew).trans LU;clear LU)))
 rw [HF5.out]
 have eD:Hid (Only (fun _=>False) bx w4):=aK.out.trans bI
 clear ho3 bI f1 f2 f3 f4 f5 r0 r1 r2 r3 r4 r5 sJ sA p1 p1' p2 p3 p3' p4 p5 p5' z4 z2 z2' u0 u1 u2 u3 u4 uJ uA
 go_wp2_with fail
 go_loopg [4,5] 6 (fun g out i wr=>∃(k:Nat) (W:World),W=wr∧g=6 - k∧k≤n∧k≤nT∧out=.string (bs (Hd.au n T (Hd.second n jo af) k))∧i=.int .i64 (k:Int)∧Only (fun _=>False) bx W)
 case atStart=>exact⟨0,_,rfl,rfl,by omega,by omega,rfl,rfl,eD.out⟩
 case round=>
  obtain⟨k,W,hW,rfl,hk,hkT,rfl,rfl,hOr⟩:=hrel
  subst hW
  have HOr:=zH hOr
  have hP:vF W w.heap.size c jo af aT nT cT aR nR cR:=RF.out.keep hOr
  have HP:=zH hP
  have d3:=hP.c3
  have MH:Bw W aT nT T:=HT.out.keep (((Only.refl (fun _=>False) w).alloc _).trans (Yv.out ▸ hOr))
  have ib:=zH MH
  obtain⟨X,hX⟩:∃X,X=Hd.au n T (Hd.second n jo af) k:=⟨_,rfl⟩
  have HX:=zH hX
  have lX:X.length≤51+13*k:=by rw [hX,Hd.rC];have:=(Hd.uT n jo af bg).1;omega
  rw [←hX]
  obtain⟨mX,sX,lmX⟩:=sz X
  have Un:mX≤129:=by omega
  clear hX lX lmX hP hOr
  by_cases hlt:k < nT
  ·by_cases hln:k < n
   ·obtain⟨hl,b,off,h1,h2⟩:=MH
    obtain⟨ha,hb⟩:=h1 (by omega)
    obtain⟨x,hx⟩:∃x,T[k]?=some x:=⟨T[k]'(by omega),List.getElem?_eq_getElem _⟩
    obtain⟨hx2,hcx⟩:=h2 k x hx
    have HAT:Hid (Hd.at' T k=x):=by show Hd.at' T k=x;unfold Hd.at';rw [hx];rfl
    have HA:=zH ha
    have EH:∀w':World,Only (fun _=>False) W w'→(w'.cell? ⟨w.heap.size,3,none⟩=some (.slice (some ⟨b,off,none⟩) nT cT)∧w'.cell? ⟨b,off+k,none⟩=some (.int .u8 (x:Int))):=fun w' ho=>⟨by rw [←ha];exact (HP.out.keep ho).c3,(World.cell?_of_block (a:=⟨b,off+k,none⟩) (ho.block b hb (fun h=>h))).trans hcx⟩
    have Dz:=zH EH
    have t1:(k:Int) <(nT:Int):=by omega
    have t2:(k:Int) <(n:Int):=by omega
    have e3:bs X++(⟨#[116,114,101,97,116,32]⟩:ByteArray)=bs (Hd.cat X [116,114,101,97,116,32]):=jG _ _
    obtain⟨Y1,OV⟩:∃Y,Y=Hd.cat X [116,114,101,97,116,32]:=⟨_,rfl⟩
    rw [←OV] at e3
    obtain⟨m3,s3,l3⟩:=sz Y1
    have e4:bs Y1++bs (Hd.name n k)=bs (Hd.cat Y1 (Hd.name n k)):=ek _ _
    obtain⟨Y2,hY2⟩:∃Y,Y=Hd.cat Y1 (Hd.name n k):=⟨_,rfl⟩
    rw [←hY2] at e4
    obtain⟨m4,s4,l4⟩:=sz Y2
    have e5:bs Y2++(⟨#[32,61,32]⟩:ByteArray)=bs (Hd.cat Y2 [32,61,32]):=jG _ _
    obtain⟨Y3,Yw⟩:∃Y,Y=Hd.cat Y2 [32,61,32]:=⟨_,rfl⟩
    rw [←Yw] at e5
    obtain⟨m5,s5,l5⟩:=sz Y3
    have e6:bs Y3++bs (Hd.name n x)=bs (Hd.cat Y3 (Hd.name n x)):=ek _ _
    obtain⟨Y4,Yx⟩:∃Y,Y=Hd.cat Y3 (Hd.name n x):=⟨_,rfl⟩
    rw [←Yx] at e6
    obtain⟨m6,s6,l6⟩:=sz Y4
    have e7:bs Y4++(⟨#[59,10]⟩:ByteArray)=bs (Hd.cat Y4 [59,10]):=jG _ _
    obtain⟨Y5,hY5⟩:∃Y,Y=Hd.cat Y4 [59,10]:=⟨_,rfl⟩
    rw [←hY5] at e7
    have HY5:Hid (Y5=Hd.cat (Hd.cat (Hd.cat (Hd.cat (Hd.cat X [116,114,101,97,116,32]) (Hd.name n k)) [32,61,32]) (Hd.name n x)) [59,10]):=by show Y5=_;rw [hY5,Yx,Yw,hY2,OV]
    have b3:m3=X.length+6:=by rw [l3,OV,Hd.bA];rfl
    have b4:m4=m3+1:=by rw [l4,hY2,Hd.bA,l3];rfl
    have b5:m5=m4+3:=by rw [l5,Yw,Hd.bA,l4];rfl
    have b6:m6=m5+1:=by rw [l6,Yx,Hd.bA,l5];rfl
    have hXl:X.length≤129:=by have:=bf X;omega
    have b3':m3≤200:=by omega
    have b4':m4≤200:=by omega
    have b5':m5≤200:=by omega
    have b6':m6≤200:=by omega
    clear b3 b4 b5 b6 l3 l4 l5 l6 OV hY2 Yw Yx hY5 hXl
    have sk:(bs (Hd.name n k)).size=1:=bf _
    have sx:(bs (Hd.name n x)).size=1:=bf _
    have hwx:IntKind.i64.wrap (x:Int)=(x:Int):=by simp only [IntKind.wrap];first | omega |(simp;omega) |(unfold IntKind.bits;simp;omega)
    have z6:(⟨#[116,114,101,97,116,32]⟩:ByteArray).size=6:=rfl
    have z3:(⟨#[32,61,32]⟩:ByteArray).size=3:=rfl
    have z2:(⟨#[59,10]⟩:ByteArray).size=2:=rfl
    have p1:(9223372036854775807 < mX+6)=False:=eq_false (by omega)
    have q1:(9223372036854775801 < mX)=False:=eq_false (by omega)
    have p2:(9223372036854775807 < m3+1)=False:=eq_false (by omega)
    have q2:(9223372036854775806 < m3)=False:=eq_false (by omega)
    have p3:(9223372036854775807 < m4+3)=False:=eq_false (by omega)
    have q3:(9223372036854775804 < m4)=False:=eq_false (by omega)
    have p4:(9223372036854775807 < m5+1)=False:=eq_false (by omega)
    have q4:(9223372036854775806 < m5)=False:=eq_false (by omega)
    have p5:(9223372036854775807 < m6+2)=False:=eq_false (by omega)
    have q5:(9223372036854775805 < m6)=False:=eq_false (by omega)
    clear h1 h2 hl hx hcx EH e1 s1 e2 sN mNl d3
    subst ha
    have d3:W.cell? ⟨w.heap.size,3,none⟩=some (.slice (some ⟨b,off,none⟩) nT cT):=HP.out.c3
    go_wp2_with fail
    go_region_held3 (fun w'=>w'.cell? ⟨w.heap.size,3,none⟩=some (.slice (some ⟨b,off,none⟩) nT cT)∧w'.cell? ⟨b,off+k,none⟩=some (.int .u8 (x:Int))) ((first | exact Dz.out _ ((Only.refl (fun _=>False) W).drew) | exact Dz.out _ bI | exact Dz.out _ ho3)) ((first |(go_at_call 20;have hgd:=ho3;refine (fB n x _ hn1 bg hx2).mono ?_;clear hgd;rintro en w4 ⟨rfl,LQ⟩;have bI:Only (fun _=>False) W w4:=ho3.trans LQ;clear LQ) |(go_at_call 20;refine (fB n k _ hn1 bg (by omega)).mono ?_;rintro en w3 ⟨rfl,LU⟩;have ho3:Only (fun _=>False) W w3:=((Only.refl (fun _=>False) W).drew).trans LU;clear LU)))
    go_wp2_with fail
    go_roundg (6 -(k+1))
    case measure=>omega
    case rel=>exact⟨k+1,_,rfl,rfl,by omega,by omega,by rw [HY5.out,HX.out,Hd.au,HAT.out],by go_num,HOr.out.trans bI⟩
   ·have hmin:k=min T.length n:=by have:=ib.out.1;omega
    have t1:(k:Int) <(nT:Int):=by omega
    have t2:¬(k:Int) <(n:Int):=by omega
    have t3:decide ((k:Int) <(n:Int))=false:=decide_eq_false t2
    have LV:=zH hmin
    clear MH hmin e1 s1 e2 sN mNl
    go_wp2_with fail
    obtain⟨W2,hW2⟩:∃W2,W2=W.alloc (.cells #[.string ⟨#[107,101,101,112,32]⟩,.string ⟨#[109,97,121,32]⟩,.string ⟨#[109,117,115,116,32]⟩] 9):=⟨_,rfl⟩
    have HW2:=zH hW2
    have HOW:Hid (Only (fun _=>False) bx W2):=by rw [hW2];exact HOr.out.alloc _
    have Xq:Hid (W2.heap[W.heap.size]?=some (.cells #[.string ⟨#[107,101,101,112,32]⟩,.string ⟨#[109,97,121,32]⟩,.string ⟨#[109,117,115,116,32]⟩] 9 (0,0))):=by rw [hW2];exact heap_alloc_new W _
    have lX2:X.length≤129:=by have:=bf X;omega
    clear hW2
    go_loopg [4,7] 10 (fun g out i wr=>∃(q:Nat) (V:World),V=wr∧g=10 - q∧q≤10∧q≤nR∧out=.string (bs (Hd.ru n rs X q))∧i=.int .i64 (q:Int)∧Only (fun _=>False) W2 V)
    case atStart=>exact⟨0,_,rfl,rfl,by omega,by omega,rfl,rfl,by rw [HW2.out];exact Only.refl _ _⟩
    case round=>
     obtain⟨q,V,hV,rfl,hq,hqR,rfl,rfl,hOv⟩:=hrel
     subst hV
     have Xu:=zH hOv
     have hOb:Only (fun _=>False) bx V:=HOW.out.trans hOv
     have sH:Hid (vF V w.heap.size c jo af aT nT cT aR nR cR):=RF.out.keep hOb
     have TI:Hid (Only (fun _=>False) w V):=((Only.refl (fun _=>False) w).alloc _).trans (Yv.out ▸ hOb)
     have HRW:Hid (Rw V aR nR rs):=HR.out.keep TI.out
     have d4:=sH.out.c4
     obtain⟨Z,hZ⟩:∃Z,Z=Hd.ru n rs X q:=⟨_,rfl⟩
     have HZ:=zH hZ
     have lZ:Z.length≤129+874*q:=by rw [hZ];have:=(Hd.DN n rs X bg q).1;omega
     rw [←hZ]
     obtain⟨mZ,sZ,lmZ⟩:=sz Z
     have hmZ:mZ≤9000:=by omega
     clear hZ lZ lmZ hOb hOv
     by_cases hlt2:q < nR
     ·by_cases hlq:q < 10
      ·obtain⟨hl,b,off,h1,h2⟩:=HRW.out
       obtain⟨ha,hb⟩:=h1 (by omega)
       obtain⟨y,hy⟩:∃y,rs[q]?=some y:=⟨rs[q]'(by omega),List.getElem?_eq_getElem _⟩
       have HY:=zH hy
       obtain⟨o,c0,c1,c2⟩:=h2 q y hy
       clear hy h1 h2 hl
       obtain⟨yd,la,ln,lc,L,ra,rn,rc,R⟩:=y
       obtain⟨o1,o2,o3,o4,o5,o6,o7⟩:=o
       dsimp only at o1 o2 o3 o4 o5 o6 o7 c0 c1 c2
       have HL:=zH o2
       have HRr:=zH o5
       clear o2 o5 o4 o7
       obtain⟨e,he⟩:∃e,e=yd % 3:=⟨_,rfl⟩
       have hme:(yd:Int) % 3=(e:Int):=by omega
       have he3:e < 3:=by omega
       have HE3:=zH he
       have EH:∀w':World,Only (fun _=>False) V w'→(w'.cell? ⟨w.heap.size,4,none⟩=some (.slice (some ⟨b,off,none⟩) nR cR)∧w'.cell? ⟨b,off+q*3,none⟩=some (.int .u8 (yd:Int))∧w'.cell? ⟨b,off+q*3+1,none⟩=some (.slice la ln lc)∧w'.cell? ⟨b,off+q*3+2,none⟩=some (.slice ra rn rc)∧w'.cell? ⟨W.heap.size,((yd:Int) % 3).toNat,none⟩=some (.string (bs (Hd.word yd)))):=fun w' ho=>by
        have hblk:=ho.block b hb (fun h=>h)
        refine⟨by rw [←ha];exact (sH.out.keep ho).c4,(World.cell?_of_block (a:=⟨b,off+q*3,none⟩) hblk).trans c0,(World.cell?_of_block (a:=⟨b,off+q*3+1,none⟩) hblk).trans c1,(World.cell?_of_block (a:=⟨b,off+q*3+2,none⟩) hblk).trans c2,?_⟩
        have hg:w'.heap[W.heap.size]?=some (.cells #[.string ⟨#[107,101,101,112,32]⟩,.string ⟨#[109,97,121,32]⟩,.string ⟨#[109,117,115,116,32]⟩] 9 (0,0)):=((Xu.out.trans ho).block _ (Array.getElem?_eq_some_iff.1 Xq.out).1 (fun h=>h)).trans Xq.out
        rw [show ((yd:Int) % 3).toNat=e by omega,cell_of_row _ _ _ _ _ _ hg]
        unfold Hd.word
        rw [←HE3.out]
        rcases (show e=0∨e=1∨e=2 by omega) with r | r | r
        ·subst r;rfl
        ·subst r;rfl
        ·subst r;rfl
       have Dz:=zH EH
       clear EH c0 c1 c2 he
       have hE:e=0∨e=1∨e=2:=by omega
       have t4:(q:Int) <(nR:Int):=by omega
       have t5:(q:Int) < 10:=by omega
       have htm:(yd:Int).tmod 3=(yd:Int) % 3:=Int.tmod_eq_emod_of_nonneg (by omega)
       have t6:(0:Int)≤(yd:Int) % 3:=by omega
       have t7:(yd:Int) % 3 < 3:=by omega
       have hwe:IntKind.u8.wrap ((yd:Int) % 3)=(yd:Int) % 3:=by simp only [IntKind.wrap];first | omega |(simp;omega) |(unfold IntKind.bits;simp;omega)
       obtain⟨mW,sW,lW⟩:=sz (Hd.word yd)
       obtain⟨mL,sL,lL⟩:=sz (Hd.expr n L)
       obtain⟨mR,sR,lR⟩:=sz (Hd.expr n R)
       have hW5:=(Hd.qi yd).1
       have hL4:=Hd.bF n L bg
       have fC:=Hd.bF n R bg
       have f1:bs Z++bs (Hd.word yd)=bs (Hd.cat Z (Hd.word yd)):=ek _ _
       obtain⟨Z1,hZ1⟩:∃Zz,Zz=Hd.cat Z (Hd.word yd):=⟨_,rfl⟩
       rw [←hZ1] at f1
       have f2:bs Z1++bs (Hd.expr n L)=bs (Hd.cat Z1 (Hd.expr n L)):=ek _ _
       obtain⟨Z2,hZ2⟩:∃Zz,Zz=Hd.cat Z1 (Hd.expr n L):=⟨_,rfl⟩
       rw [←hZ2] at f2
       have f3:bs Z2++(⟨#[32,47,32]⟩:ByteArray)=bs (Hd.cat Z2 [32,47,32]):=jG _ _
       obtain⟨Z3,hZ3⟩:∃Zz,Zz=Hd.cat Z2 [32,47,32]:=⟨_,rfl⟩
       rw [←hZ3] at f3
       have f4:bs Z3++bs (Hd.expr n R)=bs (Hd.cat Z3 (Hd.expr n R)):=ek _ _
       obtain⟨Z4,OW⟩:∃Zz,Zz=Hd.cat Z3 (Hd.expr n R):=⟨_,rfl⟩
       rw [←OW] at f4
       have f5:bs Z4++(⟨#[59,10]⟩:ByteArray)=bs (Hd.cat Z4 [59,10]):=jG _ _
       obtain⟨Z5,TJ⟩:∃Zz,Zz=Hd.cat Z4 [59,10]:=⟨_,rfl⟩
       rw [←TJ] at f5
       have Vf:Hid (Z5=Hd.cat (Hd.cat (Hd.cat (Hd.cat (Hd.cat Z (Hd.word yd)) (Hd.expr n L)) [32,47,32]) (Hd.expr n R)) [59,10]):=by show Z5=_;rw [TJ,OW,hZ3,hZ2,hZ1]
       obtain⟨n1,r1,l1⟩:=sz Z1
       obtain⟨n2,r2,l2⟩:=sz Z2
       obtain⟨n3,r3,l3⟩:=sz Z3
       obtain⟨n4,r4,l4⟩:=sz Z4
       have b1:n1=mZ+mW:=by rw [l1,hZ1,Hd.bA,lW];have:=bf Z;omega
       have b2:n2=n1+mL:=by rw [l2,hZ2,Hd.bA,lL,l1]
       have b3:n3=n2+3:=by rw [l3,hZ3,Hd.bA,l2];rfl
       have b4:n4=n3+mR:=by rw [l4,OW,Hd.bA,lR,l3]
       have g1:n1≤20000:=by omega
       have g2:n2≤20000:=by omega
       have g3:n3≤20000:=by omega
       have g4:n4≤20000:=by omega
       have gW:mW≤5:=by omega
       have gL:mL≤432:=by omega
       have gR:mR≤432:=by omega
       clear b1 b2 b3 b4 l1 l2 l3 l4 lW lL lR hZ1 hZ2 hZ3 OW TJ hW5 hL4 fC
       have z3:(⟨#[32,47,32]⟩:ByteArray).size=3:=rfl
       have z2:(⟨#[59,10]⟩:ByteArray).size=2:=rfl
       have p1:(9223372036854775807 < mZ+mW)=False:=eq_false (by omega)
       have p2:(9223372036854775807 < n1+mL)=False:=eq_false (by omega)
       have p3:(9223372036854775807 < n2+3)=False:=eq_false (by omega)
       have p3':(9223372036854775804 < n2)=False:=eq_false (by omega)
       have p4:(9223372036854775807 < n3+mR)=False:=eq_false (by omega)
       have p5:(9223372036854775807 < n4+2)=False:=eq_false (by omega)
       have p5':(9223372036854775805 < n4)=False:=eq_false (by omega)
       subst ha
       clear he3 hme hE
       go_wp2_with fail
       go_region_held3 (fun w'=>w'.cell? ⟨w.heap.size,4,none⟩=some (.slice (some ⟨b,off,none⟩) nR cR)∧w'.cell? ⟨b,off+q*3,none⟩=some (.int .u8 (yd:Int))∧w'.cell? ⟨b,off+q*3+1,none⟩=some (.slice la ln lc)∧w'.cell? ⟨b,off+q*3+2,none⟩=some (.slice ra rn rc)∧w'.cell? ⟨W.heap.size,((yd:Int) % 3).toNat,none⟩=some (.string (bs (Hd.word yd)))) ((first | exact Dz.out _ ((Only.refl (fun _=>False) V).drew) | exact Dz.out _ qM | exact Dz.out _ df)) ((first |(go_at_call 21;have hgd:=df;refine (jH n ra rn rc R _ hn1 bg (HRr.out.keep df) o6).mono ?_;clear hgd;rintro en w6 ⟨rfl,LW⟩;have qM:Only (fun _=>False) V w6:=df.trans LW;clear LW) |(go_at_call 21;refine (jH n la ln lc L _ hn1 bg (HL.out.keep ((Only.refl (fun _=>False) V).drew)) o3).mono ?_;rintro en w5 ⟨rfl,LX⟩;have df:Only (fun _=>False) V w5:=((Only.refl (fun _=>False) V).drew).trans LX;clear LX)))
       go_wp2_with fail
       go_roundg (10 -(q+1))
       case measure=>omega
       case rel=>exact⟨q+1,_,rfl,rfl,by omega,by omega,by rw [Vf.out,HZ.out,Hd.ru,HY.out],by go_num,Xu.out.trans qM⟩
      ·have t4:(q:Int) <(nR:Int):=by omega
       have t5:¬(q:Int) < 10:=by omega
       have t6:decide ((q:Int) < 10)=false:=decide_eq_false t5
       have x8:Hid (Z=Hd.text n jo af T rs):=by
        show Z=_
        have hqm:q=min rs.length 10:=by have:=HRW.out.1;omega
        rw [HZ.out,HX.out,LV.out,hqm]
        unfold Hd.text
        rfl
       go_wp2_with fail
       go_ret
       exact⟨(by show Ending.returned (Value.string (bs Z))=_;rw [x8.out]),TI.out⟩
     ·have t4:¬(q:Int) <(nR:Int):=by omega
      have t6:decide ((q:Int) <(nR:Int))=false:=decide_eq_false t4
      have x8:Hid (Z=Hd.text n jo af T rs):=by
       show Z=_
       have hqm:q=min rs.length 10:=by have:=HRW.out.1;omega
       rw [HZ.out,HX.out,LV.out,hqm]
       unfold Hd.text
       rfl
      go_wp2_with fail
      go_ret
      exact⟨(by show Ending.returned (Value.string (bs Z))=_;rw [x8.out]),TI.out⟩
  ·have hmin:k=min T.length n:=by have:=ib.out.1;omega
   have t2:¬(k:Int) <(nT:Int):=by omega
   have t3:decide ((k:Int) <(nT:Int))=false:=decide_eq_false t2
   have LV:=zH hmin
   clear MH hmin e1 s1 e2 sN mNl
   go_wp2_with fail
   obtain⟨W2,hW2⟩:∃W2,W2=W.alloc (.cells #[.string ⟨#[107,101,101,112,32]⟩,.string ⟨#[109,97,121,32]⟩,.string ⟨#[109,117,115,116,32]⟩] 9):=⟨_,rfl⟩
   have HW2:=zH hW2
   have HOW:Hid (Only (fun _=>False) bx W2):=by rw [hW2];exact HOr.out.alloc _
   have Xq:Hid (W2.heap[W.heap.size]?=some (.cells #[.string ⟨#[107,101,101,112,32]⟩,.string ⟨#[109,97,121,32]⟩,.string ⟨#[109,117,115,116,32]⟩] 9 (0,0))):=by rw [hW2];exact heap_alloc_new W _
   have lX2:X.length≤129:=by have:=bf X;omega
   clear hW2
   go_loopg [4,7] 10 (fun g out i wr=>∃(q:Nat) (V:World),V=wr∧g=10 - q∧q≤10∧q≤nR∧out=.string (bs (Hd.ru n rs X q))∧i=.int .i64 (q:Int)∧Only (fun _=>False) W2 V)
   case atStart=>exact⟨0,_,rfl,rfl,by omega,by omega,rfl,rfl,by rw [HW2.out];exact Only.refl _ _⟩
   case round=>
    obtain⟨q,V,hV,rfl,hq,hqR,rfl,rfl,hOv⟩:=hrel
    subst hV
    have Xu:=zH hOv
    have hOb:Only (fun _=>False) bx V:=HOW.out.trans hOv
    have sH:Hid (vF V w.heap.size c jo af aT nT cT aR nR cR):=RF.out.keep hOb
    have TI:Hid (Only (fun _=>False) w V):=((Only.refl (fun _=>False) w).alloc _).trans (Yv.out ▸ hOb)
    have HRW:Hid (Rw V aR nR rs):=HR.out.keep TI.out
    have d4:=sH.out.c4
    obtain⟨Z,hZ⟩:∃Z,Z=Hd.ru n rs X q:=⟨_,rfl⟩
    have HZ:=zH hZ
    have lZ:Z.length≤129+874*q:=by rw [hZ];have:=(Hd.DN n rs X bg q).1;omega
    rw [←hZ]
    obtain⟨mZ,sZ,lmZ⟩:=sz Z
    have hmZ:mZ≤9000:=by omega
    clear hZ lZ lmZ hOb hOv
    by_cases hlt2:q < nR
    ·by_cases hlq:q < 10
     ·obtain⟨hl,b,off,h1,h2⟩:=HRW.out
      obtain⟨ha,hb⟩:=h1 (by omega)
      obtain⟨y,hy⟩:∃y,rs[q]?=some y:=⟨rs[q]'(by omega),List.getElem?_eq_getElem _⟩
      have HY:=zH hy
      obtain⟨o,c0,c1,c2⟩:=h2 q y hy
      clear hy h1 h2 hl
      obtain⟨yd,la,ln,lc,L,ra,rn,rc,R⟩:=y
      obtain⟨o1,o2,o3,o4,o5,o6,o7⟩:=o
      dsimp only at o1 o2 o3 o4 o5 o6 o7 c0 c1 c2
      have HL:=zH o2
      have HRr:=zH o5
      clear o2 o5 o4 o7
      obtain⟨e,he⟩:∃e,e=yd % 3:=⟨_,rfl⟩
      have hme:(yd:Int) % 3=(e:Int):=by omega
      have he3:e < 3:=by omega
      have HE3:=zH he
      have EH:∀w':World,Only (fun _=>False) V w'→(w'.cell? ⟨w.heap.size,4,none⟩=some (.slice (some ⟨b,off,none⟩) nR cR)∧w'.cell? ⟨b,off+q*3,none⟩=some (.int .u8 (yd:Int))∧w'.cell? ⟨b,off+q*3+1,none⟩=some (.slice la ln lc)∧w'.cell? ⟨b,off+q*3+2,none⟩=some (.slice ra rn rc)∧w'.cell? ⟨W.heap.size,((yd:Int) % 3).toNat,none⟩=some (.string (bs (Hd.word yd)))):=fun w' ho=>by
       have hblk:=ho.block b hb (fun h=>h)
       refine⟨by rw [←ha];exact (sH.out.keep ho).c4,(World.cell?_of_block (a:=⟨b,off+q*3,none⟩) hblk).trans c0,(World.cell?_of_block (a:=⟨b,off+q*3+1,none⟩) hblk).trans c1,(World.cell?_of_block (a:=⟨b,off+q*3+2,none⟩) hblk).trans c2,?_⟩
       have hg:w'.heap[W.heap.size]?=some (.cells #[.string ⟨#[107,101,101,112,32]⟩,.string ⟨#[109,97,121,32]⟩,.string ⟨#[109,117,115,116,32]⟩] 9 (0,0)):=((Xu.out.trans ho).block _ (Array.getElem?_eq_some_iff.1 Xq.out).1 (fun h=>h)).trans Xq.out
       rw [show ((yd:Int) % 3).toNat=e by omega,cell_of_row _ _ _ _ _ _ hg]
       unfold Hd.word
       rw [←HE3.out]
       rcases (show e=0∨e=1∨e=2 by omega) with r | r | r
       ·subst r;rfl
       ·subst r;rfl
       ·subst r;rfl
      have Dz:=zH EH
      clear EH c0 c1 c2 he
      have hE:e=0∨e=1∨e=2:=by omega
      have t4:(q:Int) <(nR:Int):=by omega
      have t5:(q:Int) < 10:=by omega
      have htm:(yd:Int).tmod 3=(yd:Int) % 3:=Int.tmod_eq_emod_of_nonneg (by omega)
      have t6:(0:Int)≤(yd:Int) % 3:=by omega
      have t7:(yd:Int) % 3 < 3:=by omega
      have hwe:IntKind.u8.wrap ((yd:Int) % 3)=(yd:Int) % 3:=by simp only [IntKind.wrap];first | omega |(simp;omega) |(unfold IntKind.bits;simp;omega)
      obtain⟨mW,sW,lW⟩:=sz (Hd.word yd)
      obtain⟨mL,sL,lL⟩:=sz (Hd.expr n L)
      obtain⟨mR,sR,lR⟩:=sz (Hd.expr n R)
      have hW5:=(Hd.qi yd).1
      have hL4:=Hd.bF n L bg
      have fC:=Hd.bF n R bg
      have f1:bs Z++bs (Hd.word yd)=bs (Hd.cat Z (Hd.word yd)):=ek _ _
      obtain⟨Z1,hZ1⟩:∃Zz,Zz=Hd.cat Z (Hd.word yd):=⟨_,rfl⟩
      rw [←hZ1] at f1
      have f2:bs Z1++bs (Hd.expr n L)=bs (Hd.cat Z1 (Hd.expr n L)):=ek _ _
      obtain⟨Z2,hZ2⟩:∃Zz,Zz=Hd.cat Z1 (Hd.expr n L):=⟨_,rfl⟩
      rw [←hZ2] at f2
      have f3:bs Z2++(⟨#[32,47,32]⟩:ByteArray)=bs (Hd.cat Z2 [32,47,32]):=jG _ _
      obtain⟨Z3,hZ3⟩:∃Zz,Zz=Hd.cat Z2 [32,47,32]:=⟨_,rfl⟩
      rw [←hZ3] at f3
      have f4:bs Z3++bs (Hd.expr n R)=bs (Hd.cat Z3 (Hd.expr n R)):=ek _ _
      obtain⟨Z4,OW⟩:∃Zz,Zz=Hd.cat Z3 (Hd.expr n R):=⟨_,rfl⟩
      rw [←OW] at f4
      have f5:bs Z4++(⟨#[59,10]⟩:ByteArray)=bs (Hd.cat Z4 [59,10]):=jG _ _
      obtain⟨Z5,TJ⟩:∃Zz,Zz=Hd.cat Z4 [59,10]:=⟨_,rfl⟩
      rw [←TJ] at f5
      have Vf:Hid (Z5=Hd.cat (Hd.cat (Hd.cat (Hd.cat (Hd.cat Z (Hd.word yd)) (Hd.expr n L)) [32,47,32]) (Hd.expr n R)) [59,10]):=by show Z5=_;rw [TJ,OW,hZ3,hZ2,hZ1]
      obtain⟨n1,r1,l1⟩:=sz Z1
      obtain⟨n2,r2,l2⟩:=sz Z2
      obtain⟨n3,r3,l3⟩:=sz Z3
      obtain⟨n4,r4,l4⟩:=sz Z4
      have b1:n1=mZ+mW:=by rw [l1,hZ1,Hd.bA,lW];have:=bf Z;omega
      have b2:n2=n1+mL:=by rw [l2,hZ2,Hd.bA,lL,l1]
      have b3:n3=n2+3:=by rw [l3,hZ3,Hd.bA,l2];rfl
      have b4:n4=n3+mR:=by rw [l4,OW,Hd.bA,lR,l3]
      have g1:n1≤20000:=by omega
      have g2:n2≤20000:=by omega
      have g3:n3≤20000:=by omega
      have g4:n4≤20000:=by omega
      have gW:mW≤5:=by omega
      have gL:mL≤432:=by omega
      have gR:mR≤432:=by omega
      clear b1 b2 b3 b4 l1 l2 l3 l4 lW lL lR hZ1 hZ2 hZ3 OW TJ hW5 hL4 fC
      have z3:(⟨#[32,47,32]⟩:ByteArray).size=3:=rfl
      have z2:(⟨#[59,10]⟩:ByteArray).size=2:=rfl
      have p1:(9223372036854775807 < mZ+mW)=False:=eq_false (by omega)
      have p2:(9223372036854775807 < n1+mL)=False:=eq_false (by omega)
      have p3:(9223372036854775807 < n2+3)=False:=eq_false (by omega)
      have p3':(9223372036854775804 < n2)=False:=eq_false (by omega)
      have p4:(9223372036854775807 < n3+mR)=False:=eq_false (by omega)
      have p5:(9223372036854775807 < n4+2)=False:=eq_false (by omega)
      have p5':(9223372036854775805 < n4)=False:=eq_false (by omega)
      subst ha
      clear he3 hme hE
      go_wp2_with fail
      go_region_held3 (fun w'=>w'.cell? ⟨w.heap.size,4,none⟩=some (.slice (some ⟨b,off,none⟩) nR cR)∧w'.cell? ⟨b,off+q*3,none⟩=some (.int .u8 (yd:Int))∧w'.cell? ⟨b,off+q*3+1,none⟩=some (.slice la ln lc)∧w'.cell? ⟨b,off+q*3+2,none⟩=some (.slice ra rn rc)∧w'.cell? ⟨W.heap.size,((yd:Int) % 3).toNat,none⟩=some (.string (bs (Hd.word yd)))) ((first | exact Dz.out _ ((Only.refl (fun _=>False) V).drew) | exact Dz.out _ qM | exact Dz.out _ df)) ((first |(go_at_call 21;have hgd:=df;refine (jH n ra rn rc R _ hn1 bg (HRr.out.keep df) o6).mono ?_;clear hgd;rintro en w6 ⟨rfl,LW⟩;have qM:Only (fun _=>False) V w6:=df.trans LW;clear LW) |(go_at_call 21;refine (jH n la ln lc L _ hn1 bg (HL.out.keep ((Only.refl (fun _=>False) V).drew)) o3).mono ?_;rintro en w5 ⟨rfl,LX⟩;have df:Only (fun _=>False) V w5:=((Only.refl (fun _=>False) V).drew).trans LX;clear LX)))
      go_wp2_with fail
      go_roundg (10 -(q+1))
      case measure=>omega
      case rel=>exact⟨q+1,_,rfl,rfl,by omega,by omega,by rw [Vf.out,HZ.out,Hd.ru,HY.out],by go_num,Xu.out.trans qM⟩
     ·have t4:(q:Int) <(nR:Int):=by omega
      have t5:¬(q:Int) < 10:=by omega
      have t6:decide ((q:Int) < 10)=false:=decide_eq_false t5
      have x8:Hid (Z=Hd.text n jo af T rs):=by
       show Z=_
       have hqm:q=min rs.length 10:=by have:=HRW.out.1;omega
       rw [HZ.out,HX.out,LV.out,hqm]
       unfold Hd.text
       rfl
      go_wp2_with fail
      go_ret
      exact⟨(by show Ending.returned (Value.string (bs Z))=_;rw [x8.out]),TI.out⟩
    ·have t4:¬(q:Int) <(nR:Int):=by omega
     have t6:decide ((q:Int) <(nR:Int))=false:=decide_eq_false t4
     have x8:Hid (Z=Hd.text n jo af T rs):=by
      show Z=_
      have hqm:q=min rs.length 10:=by have:=HRW.out.1;omega
      rw [HZ.out,HX.out,LV.out,hqm]
      unfold Hd.text
      rfl
     go_wp2_with fail
     go_ret
     exact⟨(by show Ending.returned (Value.string (bs Z))=_;rw [x8.out]),TI.out⟩
end Go.Proofs.YtdlabakleldgaaaGreatDoor
