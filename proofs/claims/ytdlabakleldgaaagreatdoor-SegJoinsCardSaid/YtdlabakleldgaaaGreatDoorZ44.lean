/- Wi Wj -/
import Derived.Test.YtdlabakleldgaaaGreatDoorZ00
import Derived.Test.YtdlabakleldgaaaGreatDoorZ43
import Derived.Test.YtdlabakleldgaaaGreatDoorZ13
import Derived.BigRegion
set_option linter.unusedVariables false
set_option linter.unusedSimpArgs false
set_option maxRecDepth 100000
set_option maxHeartbeats 8000000
namespace Go.Proofs.YtdlabakleldgaaaGreatDoor.W
open Go.RowKit Go.Maps
theorem info3:(Tryz.prog.info? 3).map (fun i=>(i.zero,i.size,i.bytes))=some (some (.int .i64 0),1,8):=by kernel_rfl
theorem Al.up {w:World} {rb:Nat} {x x':Px} {s s':Ps} {N N':List Rl.Str} {B B':List Int} {C:List Rl.Str} {T T':List Int} {L:List Value} {n:Nat} (h:Al w rb x s N B C T L n) {w':World} (hr:Rs w' rb x' N' B' C T' L n) (hb:B'.length=N'.length) (hn:N'.length≤s'.i) (ht:T'.length=T.length) (hl:Le s s'):Al w' rb x' s' N' B' C T' L n:=⟨hr,h.c24,ht.trans h.tl,hb,h.n24,hn,by rw [hl.2.2.1];exact h.p,by rw [hl.2.2.2];exact h.d⟩
theorem Rs.TE {w:World} {rb:Nat} {x:Px} {N:List Rl.Str} {B:List Int} {C:List Rl.Str} {T:List Int} {L:List Value} {n g cap k:Nat} (h:Rs w rb x N B C T L n) (m:Int) (hv:x.vT=.slice (some ⟨g,0,none⟩) T.length cap) (hk:k < T.length):Rs (w.setCell ⟨g,k,none⟩ (.int .i64 m)) rb x N B C (T.set k m) L n∧Up rb w (w.setCell ⟨g,k,none⟩ (.int .i64 m)):=by
 have hO:Only (fun b=>x.vT.ownBlock=some b) w (w.setCell ⟨g,k,none⟩ (.int .i64 m)):=(Only.refl _ w).setCell (p:=⟨g,k,none⟩) (by show x.vT.ownBlock=some g;rw [hv];rfl) _
 have ht:(w.setCell ⟨g,k,none⟩ (.int .i64 m)).ownsRow (rb+1) 3 1 x.vT (T.set k m).length (ints (T.set k m)):=by
  rw [ints_set,List.length_set,hv]
  exact fP (by have:=h.tr;rw [hv] at this;exact this) hk _
 exact⟨⟨aM h.nm hO (bJ h.nm h.tr (by decide)),aM h.bt hO (bJ h.bt h.tr (by decide)),aM h.cl hO (bJ h.cl h.tr (by decide)),ht,aM h.ls hO (bJ h.ls h.tr (by decide)),h.ap⟩,xA hO h.tr⟩
theorem LJ (rb:Nat) (S:ByteArray) (x:Px) (s:Ps) (N:List Rl.Str) (B:List Int) (C:List Rl.Str) (T:List Int) (L:List Value) (n:Nat) (w:World) (h:Pp w rb S x s) (hS:S.size≤4096) (hA:Al w rb x s N B C T L n):
  Calls Tryz.prog 23 #[.pointer (some ⟨rb,0,none⟩)] w (LP rb S s w fun s'=>s.i < s'.i):=by
 obtain⟨i9,hi9,hz90,hz91,hz92⟩:=info_parts JG
 obtain⟨i3t,aaE,aaF,aaG,hz32⟩:=info_parts info3
 have hlt:=h.lt
 have H:Hid (Pp w rb S x s∧Al w rb x s N B C T L n):=⟨h,hA⟩
 have l0:(⟨#[99,108,97,115,115]⟩:ByteArray).toList=[99,108,97,115,115]:=by rw [Lib.toList_data]
 have l1:(⟨#[115,101,116]⟩:ByteArray).toList=[115,101,116]:=by rw [Lib.toList_data]
 have l2:(⟨#[106,111,105,110]⟩:ByteArray).toList=[106,111,105,110]:=by rw [Lib.toList_data]
 have l3:(⟨#[116,114,101,97,116]⟩:ByteArray).toList=[116,114,101,97,116]:=by rw [Lib.toList_data]
 have l4:(⟨#[107,101,101,112]⟩:ByteArray).toList=[107,101,101,112]:=by rw [Lib.toList_data]
 have l5:(⟨#[109,97,121]⟩:ByteArray).toList=[109,97,121]:=by rw [Lib.toList_data]
 have l6:(⟨#[109,117,115,116]⟩:ByteArray).toList=[109,117,115,116]:=by rw [Lib.toList_data]
 clear h hA
 go_enter Tryz.func23,Tryz.ntmps23
 go_wp2_with fail
 refine Calls.mono (qf rb S x s _ H.out.1 hS) ?_
 rintro e w1 ⟨_,s1,rfl,az,hL1,⟨u,at',rfl,hp1⟩,ho1⟩
 have P9:=bZ u
 have abM:=az.lt
 have hi1:=az.2
 have H1:Hid (Pp w1 rb S x s1∧Al w1 rb x s1 N B C T L n∧Le s s1∧Only (·=rb) w w1∧(s1.c=0→s.i < s1.i)):=⟨az,H.out.2.go ho1 hL1,hL1,ho1,hp1⟩
 have HD:Hid (∀W,Only (·=rb) w1 W→Dn W rb x N B):=fun W ho=>(H1.out.2.1.dn hi1 hS).only ho
 have hsi:=hL1.1
 clear az hL1 ho1 hp1
 by_cases e0:(u==[99,108,97,115,115])=true
 ·go_wp2_with fail
  go_loopg [] (if s1.c=0 then S.size+1 - s1.i else 0) (fun g wr=>∃(s':Ps) (x':Px) (N':List Rl.Str) (B':List Int) (C':List Rl.Str) (T':List Int) (W:World),W=wr∧g=(if s'.c=0 then S.size+1 - s'.i else 0)∧Pp W rb S x' s'∧s1.i≤s'.i∧(s'.c=0→s1.c=0)∧Up rb w W∧Al W rb x' s' N' B' C' T' L n)
  case atStart=>exact⟨s1,x,N,B,C,T,_,rfl,rfl,H1.out.1,Nat.le_refl _,fun e=>e,up H1.out.2.2.2.1,H1.out.2.1⟩
  case round=>
   obtain⟨s',x',N',B',C',T',W,hW,hg,hR,hi',hc',hO,hA⟩:=hrel
   have HG:Hid _:=hg
   clear hg
   subst hW
   have d11:=hR.c11
   have hlr:=hR.lt
   have hsz:=hR.2
   have HR:Hid (Pp W rb S x' s'∧s1.i≤s'.i∧(s'.c=0→s1.c=0)∧Up rb w W∧Al W rb x' s' N' B' C' T' L n):=⟨hR,hi',hc',hO,hA⟩
   clear hR hi' hc' hO hA
   by_cases q:s'.c=0
   ·have z:(s'.c==0)=true:=by simpa using q
    have HQ:=zH q
    clear q
    go_wp2_with fail
    refine Calls.mono (dx 59 (by decide) rb S x' s' _ HR.out.1 hS) ?_
    rintro e w2 ⟨_,s2,rfl,hR2,hL2,⟨b,rfl,hb⟩,ho2⟩
    cases b
    ·have H2:Hid (Pp w2 rb S x' s2∧Le s' s2∧Only (·=rb) W w2):=⟨hR2,hL2,ho2⟩
     clear hR2 hL2 ho2 hb
     go_wp2_with fail
     refine Calls.mono (dm rb S x' s2 N' B' _ H2.out.1 hS ((HR.out.2.2.2.2.dn hsz hS).only H2.out.2.2)) ?_
     rintro e w3 ⟨_,s3,rfl,cz,hL3,⟨u3,a3,rfl,hp3⟩,ho3⟩
     have hA3:=HR.out.2.2.2.2.go (H2.out.2.2.trans ho3) (H2.out.2.1.trans hL3)
     obtain⟨aC,jW,vS⟩:=ah hA3.r.cl
     have wW:=zH vS
     obtain⟨aT,Ab,vw⟩:=ah hA3.r.tr
     have Io:=zH vw
     have e11:=cz.c11
     have e2:w3.cell? ⟨rb,2,none⟩=some (.slice aC C'.length jW):=by rw [←vS];exact cz.c2
     have hc24:=hA3.c24
     have X5:Hid (T'.length=C'.length):=hA3.tl
     have htl:T'.length≤24:=by have:=X5.out;omega
     have hi3:=cz.2
     have H3:Hid (Pp w3 rb S x' s3∧Le s' s3∧Only (·=rb) W w3∧(s3.c=0→s'.i < s3.i)∧Al w3 rb x' s3 N' B' C' T' L n):=⟨cz,H2.out.2.1.trans hL3,H2.out.2.2.trans ho3,fun e=>Nat.lt_of_le_of_lt H2.out.2.1.1 (hp3 e),hA3⟩
     clear cz hL3 ho3 hp3 hA3 vS vw
     by_cases q3:s3.c=0
     ·have z3:(s3.c==0)=true:=by simpa using q3
      have hpr:=H3.out.2.2.2.1 q3
      have Pq:=zH q3
      clear q3
      by_cases vz:C'.length=24
      ·have q24:((C'.length:Int)==24)=true:=by simp;omega
       go_wp2_with fail
       refine Calls.mono (dH rb S x' s3 _ _ _ H3.out.1 (by decide)) ?_
       rintro e w4 ⟨_,s4,rfl,fC,hL4,⟨rfl,hc4,_⟩,bI⟩
       have f11:=fC.c11
       have z4:(s4.c==0)=false:=by simpa using hc4
       have H4:Hid (Pp w4 rb S x' s4∧Le s' s4∧Only (·=rb) W w4∧s4.c≠0):=⟨fC,H3.out.2.1.trans hL4,H3.out.2.2.1.trans bI,hc4⟩
       clear fC hL4 bI hc4
       go_wp2_with fail
       go_roundg 0
       case measure=>rw [HG.out,if_pos HQ.out];omega
       case rel=>exact⟨s4,x',N',B',C',T',_,rfl,(if_neg H4.out.2.2.2).symm,H4.out.1,Nat.le_trans HR.out.2.1 H4.out.2.1.1,fun e=>absurd e H4.out.2.2.2,HR.out.2.2.2.1.trans (up H4.out.2.2.1),HR.out.2.2.2.2.go H4.out.2.2.1 H4.out.2.1⟩
      ·have q24:((C'.length:Int)==24)=false:=by simp;omega
       have aaY:C'.length < 24:=by omega
       have hnl:N'.length≤4096:=by have h1:=HR.out.2.2.2.2.nl;omega
       clear vz
       go_wp2_with (first |(go_at_call 44;refine (sj rb S x' s3 N' B' C' T' L n u3 _ _ H3.out.1 H3.out.2.2.2.2.r (by omega) (by rw [H3.out.2.2.2.2.bl];omega)).mono ?_;rintro e w4 ⟨rfl,vN,vB,fC,hP4,bI⟩;have HR4:=zH fC;have sH:=hP4;have h2:w4.cell? ⟨rb,2,none⟩=some (.slice aC C'.length jW):=(by rw [←wW.out];exact fC.c2);have k2:=fC.fz 2;have eD:Hid (Up rb W w4):=(up H3.out.2.2.1).trans bI;clear fC hP4 bI;have abN:=HR4.out.lt) |(at_builtin;refine wpList_append_own_at _ rfl _ _ 31 rfl (rb+1) 9 i9 (.string ⟨#[]⟩) 1 16 Tryz.underlying31 hi9 hz90 hz91 hz92 rfl (by decide) (.slice aC C'.length jW) _ _ rfl (by rw [←wW.out];exact sH.cl.alloc _) ⟨w4.heap.size,0,none⟩ 1 1 [.string (bs u3)] rfl rfl (eP _ _ _) (one_cell _ rfl) (by unfold maxLen;omega) (by omega) (by simp;omega) ?_;intro V_ w5 hown5 hg5 _ jT;obtain⟨g4,cap4,rfl,_,_,_,_⟩:=ax hown5 (by omega);rw [←wW.out] at hg5 jT;obtain⟨BL,sI⟩:=sH.NB ((Only.refl (fun _=>False) w4).alloc _) hown5 hg5 jT;have h_:=HR4.out.grown ((Only.refl (fun _=>False) w4).alloc _) hg5 sH.cl;have h2':w5.cell? ⟨rb,2,none⟩=some (.slice aC C'.length jW):=(by rw [←wW.out];exact h_.c2);have k2':=h_.fz 2;have h5:w5.cell? ⟨rb,5,none⟩=some (.slice aT T'.length Ab):=(by rw [←Io.out];exact h_.c5);have k5:=h_.fz 5;have P5:=BL.only (bX (Only.refl _ _) 2 (.slice (some ⟨g4,0,none⟩) (C'.length+1) cap4));have RL:=zH h_;have oG:Hid (Up rb W w5):=eD.out.trans sI;have aaC:=h_.lt;clear BL h_ sI hown5 hg5 jT) |(at_builtin;refine wpList_append_own_at _ rfl _ _ 28 rfl (rb+1) 3 i3t (.int .i64 0) 1 8 Tryz.underlying28 aaE aaF aaG hz32 rfl (by decide) (.slice aT T'.length Ab) _ _ rfl (by rw [←Io.out];exact P5.tr.alloc _) ⟨w5.heap.size,0,none⟩ 1 1 [.int .i64 (C'.length:Int)] rfl rfl (by have:=eP (w5.setCell ⟨rb,2,none⟩ (.slice (some ⟨g4,0,none⟩) (C'.length+1) cap4)) (.int .i64 (C'.length:Int)) 3;simp only [World.setCell,Array.size_modify] at this ⊢;exact this) (one_cell _ rfl) (by unfold maxLen;omega) (by omega) (by simp;omega) ?_;intro V_ w6 hown6 kE _ GN;obtain⟨g5,cap5,rfl,_,_,_,_⟩:=ax hown6 (by omega);rw [←Io.out] at kE;have Jr:=P5.Rc ((Only.refl (fun _=>False) _).alloc _) hown6 kE;have ui:=(RL.out.aax (.slice (some ⟨g4,0,none⟩) (C'.length+1) cap4)).grown ((Only.refl (fun _=>False) _).alloc _) kE P5.tr;have h5':w6.cell? ⟨rb,5,none⟩=some (.slice aT T'.length Ab):=(by rw [←Io.out];exact ui.c5);have k5':=ui.fz 5;have HP6:=Jr;have Ug:=ui;have W_:=ui.lt;clear Jr ui hown6 kE GN))
       go_roundg (S.size+1 - s3.i)
       case measure=>rw [HG.out,if_pos HQ.out];omega
       case rel=>
        refine⟨s3,_,N'++[u3],B'++[2 ^ C'.length % 4294967296],C'++[u3],T'++[(C'.length:Int)],_,rfl,(if_pos Pq.out).symm,Ug.TE _,by have h1:=HR.out.2.1;omega,fun _=>HR.out.2.2.1 HQ.out,HR.out.2.2.2.1.trans (oG.out.trans ((up (bX (Only.refl _ _) 2 _)).trans (HP6.2.trans (up (bX (Only.refl _ _) 5 _))))),?_⟩
        have hA:=H3.out.2.2.2.2
        exact⟨HP6.1.only (bX (Only.refl _ _) 5 _),by simp;omega,by have:=X5.out;simp;omega,by simp [hA.bl],hA.n24,by have h1:=HR.out.2.2.2.2.nl;simp;omega,hA.p,hA.d⟩
     ·have z3:(s3.c==0)=false:=by simpa using q3
      have Pq:=zH q3
      clear q3
      go_wp2_with fail
      go_roundg 0
      case measure=>rw [HG.out,if_pos HQ.out];omega
      case rel=>exact⟨s3,x',N',B',C',T',_,rfl,(if_neg Pq.out).symm,H3.out.1,Nat.le_trans HR.out.2.1 H3.out.2.1.1,fun e=>absurd e Pq.out,HR.out.2.2.2.1.trans (up H3.out.2.2.1),H3.out.2.2.2.2⟩
    ·go_wp2_with fail
     go_end0
     exact⟨x',s2,rfl,hR2,by have h1:=HR.out.2.1;have h2:=hL2.1;omega,HR.out.2.2.2.1.trans (up ho2),fun e=>⟨by have h1:=HR.out.2.1;have h2:=(hb trivial).2;omega,N',B',C',T',L,n,HR.out.2.2.2.2.go ho2 hL2⟩⟩
   ·have z:(s'.c==0)=false:=by simpa using q
    have HQ:=zH q
    clear q
    go_wp2_with fail
    go_end0
    exact⟨x',s',rfl,HR.out.1,by have h1:=HR.out.2.1;omega,HR.out.2.2.2.1,fun e=>absurd e HQ.out⟩
 have q0:=eq_false_of_ne_true e0
 clear e0
 by_cases e1:(u==[115,101,116])=true
 ·go_wp2_with fail
  refine Calls.mono (dm rb S x s1 N B _ H1.out.1 hS (HD.out _ (Only.refl _ _))) ?_
  rintro e w2 ⟨_,s2,rfl,hR2,hL2,⟨u2,a2,rfl,hp2⟩,ho2⟩
  have H2:Hid (Pp w2 rb S x s2∧Le s1 s2∧Only (·=rb) w1 w2∧(s2.c=0→s1.i < s2.i)):=⟨hR2,hL2,ho2,hp2⟩
  clear hR2 hL2 ho2 hp2
  go_wp2_with fail
  refine Calls.mono (aU 61 (by decide) rb S x s2 _ H2.out.1 hS) ?_
  rintro e w3 ⟨_,s3,rfl,cz,hL3,rfl,ho3⟩
  have H3:Hid (Pp w3 rb S x s3∧Le s2 s3∧Only (·=rb) w1 w3):=⟨cz,hL3,H2.out.2.2.1.trans ho3⟩
  clear cz hL3 ho3
  go_wp2_with fail
  refine Calls.mono (qg 59 (by decide) rb S x s3 N B _ H3.out.1 hS (HD.out _ H3.out.2.2)) ?_
  rintro e w4 ⟨_,s4,rfl,fC,hL4,⟨b4,rfl⟩,bI⟩
  have d11:=fC.c11
  have H4:Hid (Pp w4 rb S x s4∧Le s2 s4∧Only (·=rb) w1 w4):=⟨fC,H3.out.2.1.trans hL4,H3.out.2.2.trans bI⟩
  clear fC hL4 bI
  have hii:s.i≤s4.i:=by have h1:=H2.out.2.1.1;have h2:=H4.out.2.1.1;omega
  by_cases q:s4.c=0
  ·have z:(s4.c==0)=true:=by simpa using q
   have hA4:=H1.out.2.1.go H4.out.2.2 (H2.out.2.1.trans H4.out.2.1)
   have hnl:N.length≤4096:=by have h1:=H1.out.2.1.nl;omega
   have hpr:s.i < s4.i∧N.length+1≤s4.i:=by
    have h1:=H2.out.2.2.2 (H4.out.2.1.2.1 q)
    have h2:=H4.out.2.1.1
    have h3:=H1.out.2.1.nl
    omega
   have PK:Hid _:=hA4
   clear hA4 q
   go_wp2_with fail
   refine Calls.mono (sj rb S x s4 N B C T L n u2 b4 _ H4.out.1 (Al.r PK.out) (by omega) (by rw [Al.bl PK.out];omega)) ?_
   rintro e w5 ⟨rfl,vN,vB,h_,BL,df⟩
   go_wp2_with fail
   go_end0
   exact⟨_,s4,rfl,h_,hii,(up (H1.out.2.2.2.1.trans H4.out.2.2)).trans df,fun _=>⟨hpr.1,N++[u2],B++[b4],C,T,L,n,Al.up PK.out BL (by rw [List.length_append,List.length_append,Al.bl PK.out];rfl) (by rw [List.length_append];exact hpr.2) rfl (Le.refl _)⟩⟩
  ·have z:(s4.c==0)=false:=by simpa using q
   have HQ:=zH q
   clear q
   go_wp2_with fail
   go_end0
   exact⟨x,s4,rfl,H4.out.1,hii,up (H1.out.2.2.2.1.trans H4.out.2.2),fun e=>absurd e HQ.out⟩
 have q1:=eq_false_of_ne_true e1
 clear e1
 by_cases e2:(u==[106,111,105,110])=true
 ·go_wp2_with fail
  refine Calls.mono (qg 47 (by decide) rb S x s1 N B _ H1.out.1 hS (HD.out _ (Only.refl _ _))) ?_
  rintro e w2 ⟨_,s2,rfl,hR2,hL2,⟨b2,rfl⟩,ho2⟩
  have d3:=hR2.c3
  have f3:=hR2.fz 3
  have lr2:=hR2.lt
  have H2:Hid (Pp w2 rb S x s2∧Le s1 s2∧Only (·=rb) w1 w2):=⟨hR2,hL2,ho2⟩
  have iC:Hid (∀j,Pp (w2.setCell ⟨rb,3,none⟩ (.int .u32 j)) rb S { x with j:=j} s2∧Only (·=rb) w1 (w2.setCell ⟨rb,3,none⟩ (.int .u32 j))∧Dn (w2.setCell ⟨rb,3,none⟩ (.int .u32 j)) rb { x with j:=j} N B):=fun j=>by
   have h1:=HD.out _ (bX ho2 3 (.int .u32 j))
   exact⟨hR2.aay j,bX ho2 3 _,⟨h1.nm,h1.bt,h1.bl,h1.le⟩⟩
  clear hR2 hL2 ho2
  go_wp2_with fail
  refine Calls.mono (qg 59 (by decide) rb S _ s2 N B _ (iC.out _).1 hS (iC.out _).2.2) ?_
  rintro e w4 ⟨_,s4,rfl,fC,hL4,⟨b4,rfl⟩,bI⟩
  have d4:=fC.c4
  have f4:=fC.fz 4
  have lr4:=fC.lt
  have H4:Hid _:=And.intro fC (And.intro (H2.out.2.1.trans hL4) ((iC.out _).2.1.trans bI))
  clear fC hL4 bI
  go_wp2_with fail
  go_end0
  refine⟨_,s4,rfl,Pp.aaz H4.out.1 _,by have h1:=H4.out.2.1.1;omega,up (H1.out.2.2.2.1.trans (bX H4.out.2.2 _ _)),fun e=>⟨by have h1:=H1.out.2.2.2.2 (H4.out.2.1.2.1 e);have h2:=H4.out.2.1.1;omega,N,B,C,T,L,n,?_⟩⟩
  have hA:=H1.out.2.1.go (bX H4.out.2.2 4 (.int .u32 (bits .or .u32 x.a b4))) H4.out.2.1
  exact⟨⟨hA.r.nm,hA.r.bt,hA.r.cl,hA.r.tr,hA.r.ls,hA.r.ap⟩,hA.c24,hA.tl,hA.bl,hA.n24,hA.nl,hA.p,hA.d⟩
 have q2:=eq_false_of_ne_true e2
 clear e2
 by_cases e3:(u==[116,114,101,97,116])=true
 ·obtain⟨aT,Ab,vw⟩:=ah H1.out.2.1.r.tr
  have Io:=zH vw
  have hC:=fun W (ho:Only (·=rb) w1 W)=>(H1.out.2.1.r.only ho).cl
  have HC:=zH hC
  have hc24:=H1.out.2.1.c24
  have htl:=H1.out.2.1.tl
  clear hC vw
  go_wp2_with fail
  refine Calls.mono (lI rb S x s1 C _ H1.out.1 hS (HC.out _ (Only.refl _ _)) hc24) ?_
  rintro e w2 ⟨_,s2,rfl,hR2,hL2,⟨k,rfl,hp2⟩,ho2⟩
  have H2:Hid (Pp w2 rb S x s2∧Le s1 s2∧Only (·=rb) w1 w2∧(s2.c=0→k < C.length∧s1.i < s2.i)):=⟨hR2,hL2,ho2,hp2⟩
  clear hR2 hL2 ho2 hp2
  go_wp2_with fail
  refine Calls.mono (aU 61 (by decide) rb S x s2 _ H2.out.1 hS) ?_
  rintro e w3 ⟨_,s3,rfl,cz,hL3,rfl,ho3⟩
  have H3:Hid (Pp w3 rb S x s3∧Le s2 s3∧Only (·=rb) w1 w3):=⟨cz,hL3,H2.out.2.2.1.trans ho3⟩
  clear cz hL3 ho3
  go_wp2_with fail
  refine Calls.mono (lI rb S x s3 C _ H3.out.1 hS (HC.out _ H3.out.2.2) hc24) ?_
  rintro e w4 ⟨_,s4,rfl,fC,hL4,⟨m,rfl,-⟩,bI⟩
  have d11:=fC.c11
  have H4:Hid (Pp w4 rb S x s4∧Le s2 s4∧Only (·=rb) w1 w4):=⟨fC,H3.out.2.1.trans hL4,H3.out.2.2.trans bI⟩
  clear hL4 bI
  by_cases q:s4.c=0
  ·have z:(s4.c==0)=true:=by simpa using q
   obtain⟨hkC,hpi⟩:=H2.out.2.2.2 (H4.out.2.1.2.1 q)
   have hkT:k < T.length:=by omega
   have hrs:=H1.out.2.1.r.only H4.out.2.2
   obtain⟨g,cap',hv',hgb,hgl,hcap,hcells⟩:=ax hrs.tr (by omega)
   rw [Io.out] at hv'
   injection hv' with e0 _ ec
   subst e0
   subst ec
   have d5:w4.cell? ⟨rb,5,none⟩=some (.slice (some ⟨g,0,none⟩) T.length Ab):=by rw [←Io.out];exact fC.c5
   have c0:w4.cell? ⟨g,k,none⟩=some (.int .i64 T[k]):=by
    rw [hcells k (by omega)]
    unfold ints
    rw [List.getElem?_map,List.getElem?_eq_getElem hkT];rfl
   have fz0:w4.frozen? ⟨g,k,none⟩=false:=by
    obtain⟨_,⟨hv,_⟩ | ⟨g2,_,_,hv,_,hh,_⟩⟩:=hrs.tr
    ·rw [Io.out] at hv;cases hv
    ·rw [Io.out] at hv
     injection hv with e1 _ _
     injection e1 with e1
     injection e1 with e1
     subst e1
     simp [World.frozen?,hh]
   have t3:(k:Int) <(T.length:Int):=by omega
   have Q7:Hid _:=Rs.TE hrs m Io.out hkT
   have sH:Hid (Pp (w4.setCell ⟨g,k,none⟩ (.int .i64 (m:Int))) rb S x s4):=⟨(Below.heap_setCell _ _ _ _ (by show rb≠g;omega)).trans fC.1,fC.2⟩
   have HQ:=zH hpi
   clear q hpi hrs hcells fC
   go_wp2_with fail
   refine Calls.mono (aU 59 (by decide) rb S x s4 _ sH.out hS) ?_
   rintro e w5 ⟨_,s5,rfl,h_,hL5,rfl,df⟩
   go_wp2_with fail
   go_end0
   refine⟨x,s5,rfl,h_,by have h1:=H2.out.2.1.1;have h2:=H4.out.2.1.1;have h3:=hL5.1;omega,(up (H1.out.2.2.2.1.trans H4.out.2.2)).trans ((And.right Q7.out).trans (up df)),fun e=>⟨by have h1:=HQ.out;have h2:=H4.out.2.1.1;have h3:=hL5.1;omega,N,B,C,T.set k m,L,n,?_⟩⟩
   have hA:=H1.out.2.1.go H4.out.2.2 (H2.out.2.1.trans (H4.out.2.1))
   exact (hA.up (And.left Q7.out) hA.bl hA.nl (List.length_set) (Le.refl _)).go df hL5
  ·have z:(s4.c==0)=false:=by simpa using q
   have HQ:=zH q
   clear q fC
   go_wp2_with fail
   refine Calls.mono (aU 59 (by decide) rb S x s4 _ H4.out.1 hS) ?_
   rintro e w5 ⟨_,s5,rfl,h_,hL5,rfl,df⟩
   go_wp2_with fail
   go_end0
   exact⟨x,s5,rfl,h_,by have h1:=H2.out.2.1.1;have h2:=H4.out.2.1.1;have h3:=hL5.1;omega,up (H1.out.2.2.2.1.trans (H4.out.2.2.trans df)),fun e=>absurd (hL5.2.1 e) HQ.out⟩
 have q3:=eq_false_of_ne_true e3
 clear e3
 have HR:Hid (∀does:Int,Calls Tryz.prog 48 #[.pointer (some ⟨rb,0,none⟩),.int .u8 does,.int .i64 at'] w1 (LP rb S s1 w1 fun _=>s1.c=0)):=fun does=>kF does at' rb S x s1 N B C T L n w1 H1.out.1 hS H1.out.2.1
 by_cases e4:(u==[107,101,101,112])=true
 ·go_wp2_with fail
  refine Calls.mono (HR.out _) ?_
  rintro e w2 ⟨x2,s2,rfl,hR2,hl2,ho2,hv2⟩
  go_wp2_with fail
  go_end0
  exact⟨x2,s2,rfl,hR2,Nat.le_trans hsi hl2,(up H1.out.2.2.2.1).trans ho2,fun e=>⟨Nat.lt_of_lt_of_le (H1.out.2.2.2.2 (hv2 e).1) hl2,(hv2 e).2⟩⟩
 have q4:=eq_false_of_ne_true e4
 clear e4
 by_cases e5:(u==[109,97,121])=true
 ·go_wp2_with fail
  refine Calls.mono (HR.out _) ?_
  rintro e w2 ⟨x2,s2,rfl,hR2,hl2,ho2,hv2⟩
  go_wp2_with fail
  go_end0
  exact⟨x2,s2,rfl,hR2,Nat.le_trans hsi hl2,(up H1.out.2.2.2.1).trans ho2,fun e=>⟨Nat.lt_of_lt_of_le (H1.out.2.2.2.2 (hv2 e).1) hl2,(hv2 e).2⟩⟩
 have q5:=eq_false_of_ne_true e5
 clear e5
 by_cases e6:(u==[109,117,115,116])=true
 ·go_wp2_with fail
  refine Calls.mono (HR.out _) ?_
  rintro e w2 ⟨x2,s2,rfl,hR2,hl2,ho2,hv2⟩
  go_wp2_with fail
  go_end0
  exact⟨x2,s2,rfl,hR2,Nat.le_trans hsi hl2,(up H1.out.2.2.2.1).trans ho2,fun e=>⟨Nat.lt_of_lt_of_le (H1.out.2.2.2.2 (hv2 e).1) hl2,(hv2 e).2⟩⟩
 have q6:=eq_false_of_ne_true e6
 clear e6
 go_wp2_with fail
 refine Calls.mono (dH rb S x s1 _ _ _ H1.out.1 (by decide)) ?_
 rintro e w2 ⟨_,s2,rfl,hR2,hL2,⟨rfl,hc2,_⟩,ho2⟩
 go_wp2_with fail
 go_end0
 exact⟨x,s2,rfl,hR2,Nat.le_trans hsi hL2.1,up (H1.out.2.2.2.1.trans ho2),fun e=>absurd e hc2⟩
theorem qh {P:Program} {fn:Func} {p u v:Tmp} {ty:TypeId} (h:fn.results=#[.cell p ty,.tmp u,.tmp v]) (tmps:Array Value) (w:World) (g:Nat) (t:TypeId) (cs:Array Value) (fr:Nat × Nat) (d:TypeDesc)
  (hp:tmps.getD p undef=.pointer (some ⟨g,0,none⟩)) (hg:w.heap[g]?=some (.cells cs t fr))
  (hu:P.underlying ty=some d) (hd:(match d with | .struct _ | .array _ _=>true | _=>false)=true) (hi:(P.info? ty).map (·.size)=some cs.size):
  (results fn tmps).run P w=.ok (.tuple #[.agg cs,tmps.getD u undef,tmps.getD v undef]) w:=by
 have hp':tmps[p]?.getD undef=.pointer (some ⟨g,0,none⟩):=by simpa using hp
 simp [results,h,hp',asAddr,run_loadVar_row w g t ty cs fr d hg hu hd hi]
theorem LK:(Tryz.prog.info? 35).map (·.size)=some 5:=by kernel_rfl
def x0:Px:=⟨.slice none 0 0,0,0,.slice none 0 0,.slice none 0 0,.slice none 0 0,.slice none 0 0⟩
def s0:Ps:=⟨0,0,0,0,0⟩
theorem Al.first (w:World) (rb:Nat):Al w rb x0 s0 [] [] [] [] [] 0:=⟨⟨World.ownsRow_nil _ _ _ _,World.ownsRow_nil _ _ _ _,World.ownsRow_nil _ _ _ _,World.ownsRow_nil _ _ _ _,World.ownsRow_nil _ _ _ _,fun g h=>by cases h⟩,by decide,rfl,rfl,by decide,by decide,by decide,rfl⟩
def vM (w:World) (z:Nat) (a b c d e:Value):World:=((((w.setCell ⟨z,0,none⟩ a).setCell ⟨z,1,none⟩ b).setCell ⟨z,2,none⟩ c).setCell ⟨z,3,none⟩ d).setCell ⟨z,4,none⟩ e
def nR:Array Value:=#[.slice none 0 0,.int .u32 0,.int .u32 0,.slice none 0 0,.slice none 0 0]
theorem tH {w:World} {z:Nat} (h:w.heap[z]?=some (.cells nR 35 (0,0))) (a b c d e:Value):(vM w z a b c d e).heap[z]?=some (.cells #[a,b,c,d,e] 35 (0,0)):=aa (aa (aa (aa (aa h a) b) c) d) e
theorem jb {w0 w:World} (h:Only (fun _=>False) w0 w) {z:Nat} (hz:w0.heap.size≤z) (a b c d e:Value):Only (fun _=>False) w0 (vM w z a b c d e):=((((h.aS (p:=⟨z,0,none⟩) hz a).aS (p:=⟨z,1,none⟩) hz b).aS (p:=⟨z,2,none⟩) hz c).aS (p:=⟨z,3,none⟩) hz d).aS (p:=⟨z,4,none⟩) hz e
theorem nRf {w:World} {z:Nat} (h:w.heap[z]?=some (.cells nR 35 (0,0))):w.cell? ⟨z,0,none⟩=some (.slice none 0 0)∧w.cell? ⟨z,1,none⟩=some (.int .u32 0)∧w.cell? ⟨z,2,none⟩=some (.int .u32 0)∧w.cell? ⟨z,3,none⟩=some (.slice none 0 0)∧w.cell? ⟨z,4,none⟩=some (.slice none 0 0)∧(∀k,w.frozen? ⟨z,k,none⟩=false)∧z < w.heap.size:=⟨(cell_of_row _ _ _ _ _ _ h).trans rfl,(cell_of_row _ _ _ _ _ _ h).trans rfl,(cell_of_row _ _ _ _ _ _ h).trans rfl,(cell_of_row _ _ _ _ _ _ h).trans rfl,(cell_of_row _ _ _ _ _ _ h).trans rfl,fun k=>by simp [World.frozen?,h],(Array.getElem?_eq_some_iff.1 h).1⟩
def ruV (v:Value):Prop:=∃(a1 a2 a3:Option Addr) (n1 c1 n2 c2 n3 c3:Nat) (j af:Int),v=.agg #[.slice a1 n1 c1,.int .u32 j,.int .u32 af,.slice a2 n2 c2,.slice a3 n3 c3]
theorem qV (S:ByteArray) (w:World) (hS:S.size≤4096):
  Calls Tryz.prog 12 #[.string S] w fun e w'=>∃v c t,e=.returned (.tuple #[v,.int .i64 c,.int .i64 t])∧ruV v∧Only (fun _=>False) w w':=by
 have XZ:¬(4096:Int) <(S.size:Int):=by omega
 have hSd:decide ((4096:Int) <(S.size:Int))=false:=decide_eq_false XZ
 obtain⟨W0,hW0⟩:∃W0,W0=(w.alloc (.cells nR 35)).alloc (.cells (pc S x0 s0) 67):=⟨_,rfl⟩
 obtain⟨rb,hrb⟩:∃rb,rb=w.heap.size+1:=⟨_,rfl⟩
 have H0:Hid (W0.heap[w.heap.size]?=some (.cells nR 35 (0,0))∧Pp W0 rb S x0 s0∧Only (fun _=>False) w W0):=by rw [hW0,hrb];exact⟨heap_alloc2_old w _ _,⟨heap_alloc2_new w _ _,Nat.zero_le _⟩,((Only.refl _ _).alloc _).alloc _⟩
 have HU:Hid (∀W,Up rb W0 W→W.heap[w.heap.size]?=some (.cells nR 35 (0,0))∧Only (fun _=>False) w W):=fun W hU=>⟨(hU.block w.heap.size (Array.getElem?_eq_some_iff.1 H0.out.1).1 (by omega)).trans H0.out.1,⟨hU.os.trans H0.out.2.2.os,hU.tape.trans H0.out.2.2.tape,hU.output.trans H0.out.2.2.output,Nat.le_trans H0.out.2.2.size hU.size,fun g hg hn=>(hU.block g (Nat.lt_of_lt_of_le hg H0.out.2.2.size) (by omega)).trans (H0.out.2.2.block g hg (fun e=>e))⟩⟩
 have HRB:=zH hrb
 clear hrb
 go_enter Tryz.func12,Tryz.ntmps12
 go_wp2_with fail
 rw [←HRB.out]
 go_loopg [] (S.size+2) (fun g wr=>∃(s':Ps) (x':Px) (W:World),W=wr∧g=(if s'.c=0 then S.size+2 - s'.i else 0)∧Pp W rb S x' s'∧Up rb W0 W∧(s'.c=0→∃N B C T L n,Al W rb x' s' N B C T L n))
 case atStart=>exact⟨s0,x0,_,rfl,(if_pos rfl).symm,by rw [hW0] at H0;exact H0.out.2.1,by rw [hW0];exact Only.refl _ _,fun _=>⟨[],[],[],[],[],0,Al.first _ _⟩⟩
 case round=>
  obtain⟨s',x',W,hW,hg,hR,hO,hA⟩:=hrel
  have HG:Hid _:=hg
  clear hg hW0
  subst hW
  have HR:Hid (Pp W rb S x' s'∧Up rb W0 W∧(s'.c=0→∃N B C T L n,Al W rb x' s' N B C T L n)):=⟨hR,hO,hA⟩
  have hsz:=hR.2
  clear hR hO hA
  go_wp2_with fail
  refine Calls.mono (qd rb S x' s' _ HR.out.1 hS) ?_
  rintro e w1 ⟨_,s1,rfl,az,hL1,⟨b,rfl,hb⟩,ho1⟩
  have d11:=az.c11
  have H1:Hid (Pp w1 rb S x' s1∧Le s' s1∧Only (·=rb) W w1):=⟨az,hL1,ho1⟩
  have hi1:=az.2
  by_cases hb0:b=0
  ·subst hb0
   obtain⟨hz,hof⟩:=HU.out _ (HR.out.2.1.trans (up ho1))
   have HZ:Hid (w1.heap[w.heap.size]?=some (.cells nR 35 (0,0))∧Only (fun _=>False) w w1):=⟨hz,hof⟩
   obtain⟨z0,z1,z2,z3,z4,TG,lz⟩:=nRf hz
   have f0:=TG 0
   have f1:=TG 1
   have f2:=TG 2
   have f3:=TG 3
   have f4:=TG 4
   have q:(((0:UInt8).toNat:Int) !=0)=false:=by rfl
   by_cases q1:s1.c=0
   ·obtain⟨N,B,C,T,L,n,hA⟩:=HR.out.2.2 (hL1.2.1 q1)
    obtain⟨aC,cC,vS⟩:=ah hA.r.cl
    obtain⟨aT,cT,vw⟩:=ah hA.r.tr
    obtain⟨aL,cL,Ev⟩:=ah hA.r.ls
    have d2:w1.cell? ⟨rb,2,none⟩=some (.slice aC C.length cC):=by rw [←vS];exact az.c2
    have d3:=az.c3
    have d4:=az.c4
    have d5:w1.cell? ⟨rb,5,none⟩=some (.slice aT T.length cT):=by rw [←vw];exact az.c5
    have d6:w1.cell? ⟨rb,6,none⟩=some (.slice aL n cL):=by rw [←Ev];exact az.c6
    have y1:(s1.c !=0)=false:=by simpa using q1
    clear hA vS vw Ev az hL1 ho1 hb q1 hz hof TG
    go_wp2_with fail
    refine bodyPost_ret (v:=.tuple #[.agg #[.slice aC C.length cC,.int .u32 x'.j,.int .u32 x'.a,.slice aT T.length cT,.slice aL n cL],.int .i64 0,.int .i64 0]) (qh (fn:=Tryz.f12) (p:=2) (u:=3) (v:=4) (ty:=35) rfl _ _ w.heap.size 35 _ (0,0) _ rfl (tH HZ.out.1 (.slice aC C.length cC) (.int .u32 x'.j) (.int .u32 x'.a) (.slice aT T.length cT) (.slice aL n cL)) Tryz.underlying35 rfl LK) rfl ?_
    exact⟨_,_,_,rfl,⟨_,_,_,_,_,_,_,_,_,_,_,rfl⟩,jb HZ.out.2 (Nat.le_refl _) _ _ _ _ _⟩
   ·have y1:(s1.c !=0)=true:=by simpa using q1
    have d12:=az.c12
    clear az hL1 ho1 hb q1 hz hof TG
    go_wp2_with fail
    go_region
    all_goals
     go_wp2_with fail
     refine bodyPost_ret (v:=.tuple #[.agg nR,.int .i64 s1.c,.int .i64 s1.t]) (qh (fn:=Tryz.f12) (p:=2) (u:=3) (v:=4) (ty:=35) rfl _ _ w.heap.size 35 _ (0,0) _ rfl (tH HZ.out.1 (.slice none 0 0) (.int .u32 0) (.int .u32 0) (.slice none 0 0) (.slice none 0 0)) Tryz.underlying35 rfl LK) rfl ?_
     exact⟨_,_,_,rfl,⟨_,_,_,_,_,_,_,_,_,_,_,rfl⟩,(jb HZ.out.2 (Nat.le_refl _) _ _ _ _ _).drew⟩
  ·obtain⟨hc1,_⟩:=hb hb0
   have q:((b.toNat:Int) !=0)=true:=by
    simp only [bne_iff_ne,ne_eq]
    intro e
    exact hb0 (UInt8.toNat_inj.1 (by show b.toNat=0;omega))
   have y1:(s1.c==0)=true:=by simpa using hc1
   have HC:Hid (s1.c=0∧s'.c=0):=⟨hc1,hL1.2.1 hc1⟩
   have CJ:Hid (∃N B C T L n,Al w1 rb x' s1 N B C T L n):=by
    obtain⟨N,B,C,T,L,n,hA⟩:=HR.out.2.2 HC.out.2
    exact⟨N,B,C,T,L,n,hA.go ho1 hL1⟩
   have hii:=hL1.1
   clear az hL1 ho1 hb hb0 hc1
   go_wp2_with fail
   obtain⟨N,B,C,T,L,n,hA⟩:=CJ.out
   refine Calls.mono (LJ rb S x' s1 N B C T L n _ H1.out.1 hS hA) ?_
   rintro e w2 ⟨x2,s2,rfl,hR2,hl2,ho2,hv2⟩
   have H2:Hid (Pp w2 rb S x2 s2∧Up rb W0 w2∧(s2.c=0→s1.i < s2.i∧∃N B C T L n,Al w2 rb x2 s2 N B C T L n)):=⟨hR2,HR.out.2.1.trans ((up H1.out.2.2).trans ho2),hv2⟩
   clear hA hR2 ho2 hv2
   go_wp2_with fail
   go_roundg (if s2.c=0 then S.size+2 - s2.i else 0)
   case measure=>
    rw [HG.out,if_pos HC.out.2]
    split
    ·rename_i e
     have h1:=(H2.out.2.2 e).1
     omega
    ·omega
   case rel=>exact⟨s2,x2,_,rfl,rfl,H2.out.1,H2.out.2.1,fun e=>(H2.out.2.2 e).2⟩
end Go.Proofs.YtdlabakleldgaaaGreatDoor.W
