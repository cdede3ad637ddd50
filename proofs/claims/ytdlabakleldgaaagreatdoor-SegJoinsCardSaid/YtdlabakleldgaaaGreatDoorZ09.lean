/- Either Clone State -/
import Derived.Test.YtdlabakleldgaaaGreatDoorZ00
import Derived.Test.YtdlabakleldgaaaGreatDoorZ08
import Derived.Lib.UnsafeStr
import Derived.Lib.BufferWrite
import Derived.Laws.MakeOwn
set_option linter.unusedVariables false
set_option linter.unusedSimpArgs false
set_option maxRecDepth 100000
set_option maxHeartbeats 8000000
namespace Go.Proofs.YtdlabakleldgaaaGreatDoor
open Go.RowKit Go.Maps
theorem zS (E:Rl.Env) (nc n d:Nat) (ts:List Rl.Tk) (p:Nat):Rl.either E nc (n+1) d ts p=match Rl.row E nc n d ts p [] with
  | .error f=>.error f
  | .ok (e,bK,p1)=>Rl.alts E nc n d bK p1 [e]:=by simp only [Rl.either];rfl
theorem FU (E:Rl.Env) (nc n d:Nat) (ts:List Rl.Tk) (p:Nat) (l:List Rl.Ex):Rl.alts E nc (n+1) d ts p l=match Rl.took 124 ts with
  | .error f=>.error f
  | .ok (false,bK)=>.ok (Rl.mO l,bK,p)
  | .ok (true,bK)=>match Rl.row E nc n d bK p [] with
   | .error f=>.error f
   | .ok (e,dC,p2)=>Rl.alts E nc n d dC p2 (l++[e]):=by simp only [Rl.alts];rfl
theorem Es.first {w:World} {base:Nat} {e:Rl.Ex} {o s k:Value} (hT:Tr w (fun b=>base≤b) e (.agg #[o,s,k])) (hb:base≤w.heap.size):Es (w.alloc (.cells #[o,s,k] 117)) base (.slice (some ⟨w.heap.size,0,none⟩) 1 1) [e]:=by
 refine⟨[o,s,k],⟨rfl,Or.inr ⟨w.heap.size,1,#[o,s,k],rfl,hb,heap_alloc_new _ _,Nat.le_refl _,by unfold maxLen;omega,rfl,rfl⟩⟩,?_⟩
 unfold fM
 refine⟨⟨o,s,k,rfl,rfl,rfl,hT.keep (fun b hb hl=>⟨⟨hb,fun e=>?_⟩,Below.heap_alloc _ _ _ hl⟩)⟩,by unfold fM;trivial⟩
 simp [Value.ownBlock] at e
 omega
theorem kC (E:Rl.Env) (nc rb:Nat) (S:ByteArray) (n:Nat) (hS:S.size≤4096) (hT:∀m,m≤n→uj E nc rb S m):dD E nc rb S (n+1):=by
 intro d p x ts w hI hM hC hn
 obtain⟨i0,hi,hz0,hz1,hz2⟩:=info_parts nI
 have hlt:=hI.lt
 have htl:ts.length≤5000:=by have:=hI.len;omega
 have HC:=zH hC
 have HI:=zH hI
 have HM:=zH hM
 have HT:=zH hT
 have Z0:Hid (Xb (w.alloc (.cells #[.int .u8 0,.int .u32 0,.slice none 0 0] 117)) w.heap.size (.int .u8 0) (.int .u32 0) (.slice none 0 0)):=Xb.new w _ _ _
 have zR:=hC.iJ
 rw [zS]
 clear hI hM hC hT
 cases hrow:Rl.row E nc n d ts p [] with
 | error f=>
  have T1:=zH hrow
  clear hrow
  simp only
  go_enter Tryz.func111,Tryz.ntmps111
  go_wp2_with (go_at_call 126;have hc:=HT.out n (Nat.le_refl _) d p x ts (w.alloc (.cells #[.int .u8 0,.int .u32 0,.slice none 0 0] 117)) (HI.out.alloc _) (HM.out.alloc _) HC.out (by omega);rw [T1.out] at hc;refine hc.mono ?_;clear hc;rintro e w1 ⟨rfl,ho1⟩)
  exact⟨rfl,rfl,((Only.refl (·=rb) w).alloc _).trans ho1⟩
 | ok r=>
  obtain⟨e1,bK,p1⟩:=r
  have T1:=zH hrow
  have YG:=(Rl.bF E nc n).2.2.1 _ _ _ _ _ _ _ hrow zR
  simp only
  obtain⟨F,hF⟩:∃F,F=Rl.alts E nc n d bK p1 [e1]:=⟨_,rfl⟩
  have HF:=zH hF
  rw [←hF]
  clear hrow hF
  go_enter Tryz.func111,Tryz.ntmps111
  go_wp2_with (go_at_call 126;have hc:=HT.out n (Nat.le_refl _) d p x ts (w.alloc (.cells #[.int .u8 0,.int .u32 0,.slice none 0 0] 117)) (HI.out.alloc _) (HM.out.alloc _) HC.out (by omega);rw [T1.out] at hc;refine hc.mono ?_;clear hc;rintro e w1 ⟨v1,rfl,hT1,hI1,ho1⟩;obtain⟨o,s,a,k,c,rfl⟩:=hT1.form;have HI1:=zH hI1;have HT1:Hid (Tr w1 (fun b=>w.heap.size+1≤b) e1 (.agg #[.int .u8 o,.int .u32 s,.slice a k c])):=(by have:=hT1;simp only [World.alloc,Array.size_push] at this;exact this);clear hI1 hT1;have bu:Hid (Only (·=rb) w w1):=((Only.refl (·=rb) w).alloc _).trans ho1;have Z1:Hid (Xb w1 w.heap.size (.int .u8 0) (.int .u32 0) (.slice none 0 0)):=Z0.out.only ho1 (by omega);have hl1:=Z1.out.lt)
  go_loopg [3] bK.length (fun g v wr=>∃(bH:List Rl.Tk) (m pr:Nat) (l:List Rl.Ex),g=bH.length∧In wr rb S (x.ay pr) bH∧Only (·=rb) w wr∧Xb wr w.heap.size (.int .u8 0) (.int .u32 0) (.slice none 0 0)∧Es wr (w.heap.size+1) v l∧l≠[]∧pr≤200∧4*bH.length+2≤m∧m≤n∧l.length+bH.length≤ts.length+1∧Hid (F=Rl.alts E nc m d bH pr l))
  case atStart=>exact⟨bK,n,p1,[e1],rfl,HI1.out.alloc _,bu.out.alloc _,Z1.out.alloc _,Es.first HT1.out (by omega),by simp,YG.2,by omega,Nat.le_refl _,by simp;omega,HF.out⟩
  case round=>
   obtain⟨bH,m,pr,l,rfl,zm,hOr,QY,hEr,UN,hpr,hm1,hm2,hll,Ej⟩:=hrel
   obtain⟨m,rfl⟩:∃k,m=k+1:=⟨m - 1,by omega⟩
   have iT:=zH zm
   have HOr:=zH hOr
   have M_:Hid (Mp wr x.mb E):=HM.out.only hOr HC.out.mb
   have Ua:Hid (Cx nc rb (x.ay pr) pr d):=HC.out.ay hpr
   have PD:=zH QY
   have Ik:=hEr
   have aJ:=Ej.out
   have hlz:=QY.lt
   have Jh:=zH UN
   rw [FU] at aJ
   clear zm hOr Ej QY hEr UN
   cases htk:Rl.took 124 bH with
   | error f=>
    rw [htk] at aJ
    have HE:=zH aJ
    have T2:=zH htk
    clear htk aJ Ik
    go_wp2_with (go_at_call 74;have hc:=aF 124 rb S (x.ay pr) bH _ iT.out hS;rw [T2.out] at hc;refine hc.mono ?_;clear hc;rintro e w2 ⟨rfl,ho2⟩)
    refine⟨rfl,?_⟩
    rw [HE.out]
    exact⟨rfl,HOr.out.trans ho2⟩
   | ok r=>
    obtain⟨b,dC⟩:=r
    rw [htk] at aJ
    have T2:=zH htk
    have UM:=Rl.kz htk
    clear htk
    cases b with
    | true=>
     simp only at aJ
     have aaS:=UM.2 rfl
     cases hrw:Rl.row E nc m d dC pr [] with
     | error f=>
      rw [hrw] at aJ
      have HE:=zH aJ
      have T3:=zH hrw
      clear hrw aJ Ik
      go_wp2_with (first |(go_at_call 74;have hc:=aF 124 rb S (x.ay pr) bH _ iT.out hS;rw [T2.out] at hc;refine hc.mono ?_;clear hc;rintro e w2 ⟨rfl,hI2,ho2⟩;have HI2:=zH hI2;clear hI2;have aK:=zH ho2;clear ho2) |(go_at_call 126;have hc:=HT.out m (by omega) d pr (x.ay pr) dC _ HI2.out (M_.out.only aK.out HC.out.mb) Ua.out (by omega);rw [T3.out] at hc;refine hc.mono ?_;clear hc;rintro e w3 ⟨rfl,ho3⟩))
      refine⟨rfl,?_⟩
      rw [HE.out]
      exact⟨rfl,HOr.out.trans (aK.out.trans ho3)⟩
     | ok r=>
      obtain⟨e2,qF,p3⟩:=r
      rw [hrw] at aJ
      have HE:=zH aJ
      have T3:=zH hrw
      have YH:=(Rl.bF E nc m).2.2.1 _ _ _ _ _ _ _ hrw hpr
      obtain⟨xs,hown,dw⟩:=Ik
      have jr:=zH hown
      have QZ:=zH dw
      clear hrw aJ hown dw
      go_wp2_with (first |(go_at_call 74;have hc:=aF 124 rb S (x.ay pr) bH _ iT.out hS;rw [T2.out] at hc;refine hc.mono ?_;clear hc;rintro e w2 ⟨rfl,hI2,ho2⟩;have HI2:=zH hI2;clear hI2;have aK:=zH ho2;clear ho2;have hl2:=aK.out.size) |(go_at_call 126;have hc:=HT.out m (by omega) d pr (x.ay pr) dC _ HI2.out (M_.out.only aK.out HC.out.mb) Ua.out (by omega);rw [T3.out] at hc;refine hc.mono ?_;clear hc;rintro e w4 ⟨v4,rfl,Q0,nH,bI⟩;obtain⟨o',s',a',k',c',rfl⟩:=Q0.form;have HI4:=zH nH;have YE:=zH Q0;clear nH Q0;have eD:Hid (Only (·=rb) wr w4):=aK.out.trans bI;have hl4:=eD.out.size;have o_:Hid (w4.ownsRow (w.heap.size+1) 117 3 u3 l.length xs):=ai jr.out eD.out (fun g hg=>by omega);have Jf:Hid (fM w4 (Kb (w.heap.size+1) u3) l (fun j=>xs[j]?)):=QZ.out.keep (fun b hb hl=>⟨hb,eD.out.block b hl (by have:=hb.1;omega)⟩)) |(at_builtin;refine wpList_append_own_at _ rfl _ _ 83 rfl (w.heap.size+1) 117 i0 (.agg #[.int .u8 0,.int .u32 0,.slice none 0 0]) 3 32 Tryz.underlying83 hi hz0 hz1 hz2 rfl (by decide) _ _ _ rfl (o_.out.alloc _) ⟨w4.heap.size,0,none⟩ 1 1 [.int .u8 o',.int .u32 s',.slice a' k' c'] rfl rfl (tC _ _ _ _) (o8 _ _ _ _ _) (by unfold maxLen;omega) (by omega) (by simp;omega) ?_;intro v5 w5 hown5 hg5 _ jT))
      go_roundg qF.length
      case measure=>omega
      case rel=>
       have sI:Only (·=rb) w w5:=by
        refine⟨hg5.os.trans (HOr.out.trans eD.out).os,hg5.tape.trans (HOr.out.trans eD.out).tape,hg5.output.trans (HOr.out.trans eD.out).output,Nat.le_trans (Nat.le_trans (HOr.out.trans eD.out).size (by simp)) hg5.size,fun g hgl hgn=>?_⟩
        have hlw:=(HOr.out.trans eD.out).size
        rw [hg5.block g (by simp;omega) (fun e=>by have:=(o_.out.lt g e.symm).1;omega),Below.heap_alloc _ _ _ (by omega)]
        exact (HOr.out.trans eD.out).block g hgl hgn
       have hk5:∀g,g < w4.heap.size→g < w.heap.size+1→w5.heap[g]?=w4.heap[g]?:=fun g h1 h2=>by
        rw [hg5.block g (by simp;omega) (fun e=>by have:=(o_.out.lt g e.symm).1;omega),Below.heap_alloc _ _ _ (by omega)]
       obtain⟨i4,fC,hs4,hi4⟩:=HI4.out
       refine⟨qF,m,p3,l++[e2],rfl,⟨i4,(hk5 rb fC.lt (by omega)).trans fC,hs4,hi4⟩,sI,(hk5 w.heap.size (by omega) (by omega)).trans (PD.out.only eD.out (by omega)),?_,by simp,YH.2,by omega,by omega,by simp;omega,HE.out⟩
       refine Es.snoc o_.out Jf.out YE.out (fun b hb=>⟨by omega,fun e=>?_⟩) hown5 hg5 jT
       have:=(jr.out.lt b e).2
       omega
    | false=>
     simp only at aJ
     have HE:=zH aJ
     clear aJ
     have Nf:=zH Ik
     obtain⟨xs,hown,dw⟩:=Ik
     match l,Nf,HE,hown,dw,Jh with
     | [],Nf,HE,hown,dw,Jh=>exact absurd rfl Jh.out
     | [e0],Nf,HE,hown,dw,Jh=>
      obtain⟨o',s',k',rfl,FT⟩:=dw.one hown.1
      obtain⟨g,cap,rfl,hgb,hgl,hcap,hcells⟩:=ax hown (by simp)
      have HT2:=zH FT
      have K0:Hid (wr.cell? ⟨g,0,none⟩=some o'):=hcells 0 (by simp)
      have K1:Hid (wr.cell? ⟨g,1,none⟩=some s'):=hcells 1 (by simp)
      have K2:Hid (wr.cell? ⟨g,2,none⟩=some k'):=hcells 2 (by simp)
      obtain⟨op,st,a',n',c',hform⟩:=FT.form
      simp only [Value.agg.injEq,Array.mk.injEq,List.cons.injEq,and_true] at hform
      obtain⟨rfl,rfl,rfl⟩:=hform
      clear hown dw hcells FT
      go_wp2_with (go_at_call 74;have hc:=aF 124 rb S (x.ay pr) bH _ iT.out hS;rw [T2.out] at hc;refine hc.mono ?_;clear hc;rintro e w2 ⟨rfl,hI2,ho2⟩;have HI2:=zH hI2;clear hI2;have aK:=zH ho2;clear ho2;have Z2:Hid (Xb w2 w.heap.size (.int .u8 0) (.int .u32 0) (.slice none 0 0)):=PD.out.only aK.out (by omega);have z0:=Z2.out.c0;have z1:=Z2.out.c1;have z2:=Z2.out.c2;have wJ:=Z2.out.fz 0;have wK:=Z2.out.fz 1;have wL:=Z2.out.fz 2;have j0:=(World.cell?_of_block (a:=⟨g,0,none⟩) (aK.out.block g hgl (by omega))).trans K0.out;have j1:=(World.cell?_of_block (a:=⟨g,1,none⟩) (aK.out.block g hgl (by omega))).trans K1.out;have j2:=(World.cell?_of_block (a:=⟨g,2,none⟩) (aK.out.block g hgl (by omega))).trans K2.out)
      refine bodyPost_ret (v:=.agg #[.int .u8 op,.int .u32 st,.slice a' n' c']) (aI rfl _ rfl (Z2.out.aV _ _ _)) rfl ?_
      rw [HE.out]
      refine⟨_,rfl,?_,HI2.out.aV (z:=w.heap.size) (by omega) _ _ _,(HOr.out.trans aK.out).aV (z:=w.heap.size) (Nat.le_refl _) _ _ _⟩
      refine HT2.out.keep fun b hb hl=>⟨by have:=hb.1;omega,?_⟩
      exact (dI w2 (z:=w.heap.size) _ _ _ (by have:=hb.1;omega)).trans (aK.out.block b hl (by have:=hb.1;omega))
     | e0::e2::l2,Nf,HE,hown,dw,Jh=>
      obtain⟨a',cap,rfl⟩:=ah hown
      have q1:(((e0::e2::l2).length:Int)==1)=false:=by simp;omega
      have xX:=zH hown
      have Jg:=zH dw
      clear hown dw
      generalize hL:e0::e2::l2=L at *
      have HL:=zH hL
      clear hL
      go_wp2_with (go_at_call 74;have hc:=aF 124 rb S (x.ay pr) bH _ iT.out hS;rw [T2.out] at hc;refine hc.mono ?_;clear hc;rintro e w2 ⟨rfl,hI2,ho2⟩;have HI2:=zH hI2;clear hI2;have aK:=zH ho2;clear ho2;have Z2:Hid (Xb w2 w.heap.size (.int .u8 0) (.int .u32 0) (.slice none 0 0)):=PD.out.only aK.out (by omega);have z0:=Z2.out.c0;have z1:=Z2.out.c1;have z2:=Z2.out.c2;have wJ:=Z2.out.fz 0;have wK:=Z2.out.fz 1;have wL:=Z2.out.fz 2)
      refine bodyPost_ret (v:=.agg #[.int .u8 3,.int .u32 0,.slice a' L.length cap]) (aI rfl _ rfl (Z2.out.aV _ _ _)) rfl ?_
      have hmk:Rl.mO L=.mk 3 0 L:=by rw [←HL.out];rfl
      rw [HE.out,hmk]
      refine⟨_,rfl,?_,HI2.out.aV (z:=w.heap.size) (by omega) _ _ _,(HOr.out.trans aK.out).aV (z:=w.heap.size) (Nat.le_refl _) _ _ _⟩
      have hT:=Tr.row (F':=fun b=>w.heap.size+1≤b) 3 xX.out Jg.out (fun g hg=>(xX.out.lt g hg).1) (fun b hb=>hb.1) (by rw [←HL.out];simp)
      refine hT.keep fun b hb hl=>⟨by omega,?_⟩
      exact (dI w2 (z:=w.heap.size) _ _ _ (by omega)).trans (aK.out.block b hl (by omega))
theorem wM (E:Rl.Env) (nc rb:Nat) (S:ByteArray) (hS:S.size≤4096):∀n,(∀m,m≤n→dD E nc rb S m)∧(∀m,m≤n→jq E nc rb S m)∧(∀m,m≤n→uj E nc rb S m)
 | 0=>by
  refine⟨fun m hm=>?_,fun m hm=>?_,fun m hm=>?_⟩
  ·intro d p x ts w _ _ _ h;omega
  ·intro d p x t ts w _ _ _ _ _ h;omega
  ·intro d p x ts w _ _ _ h;omega
 | n+1=>by
  obtain⟨h1,h2,h3⟩:=wM E nc rb S hS n
  have e1:dD E nc rb S (n+1):=kC E nc rb S n hS h3
  have e2:jq E nc rb S (n+1):=nJ E nc rb S n hS (h1 n (Nat.le_refl _))
  have e3:uj E nc rb S (n+1):=row_step E nc rb S (n+1) hS (fun m hm=>h2 m (by omega))
  refine⟨fun m hm=>?_,fun m hm=>?_,fun m hm=>?_⟩
  ·by_cases e:m=n+1
   ·rw [e];exact e1
   ·exact h1 m (by omega)
  ·by_cases e:m=n+1
   ·rw [e];exact e2
   ·exact h2 m (by omega)
  ·by_cases e:m=n+1
   ·rw [e];exact e3
   ·exact h3 m (by omega)
theorem nK (E:Rl.Env) (nc rb:Nat) (S:ByteArray) (hS:S.size≤4096) (n:Nat):dD E nc rb S n:=(wM E nc rb S hS n).1 n (Nat.le_refl _)
theorem Below.Q4 {B:Nat} {w w':World} (h:Below B w w') (hB:B=w.heap.size):Only (fun _=>False) w w':=⟨h.os,h.tape,h.output,h.size,fun g hg _=>h.block g (by omega)⟩
theorem info5:(Tryz.prog.info? 5).map (fun i=>(i.zero,i.size,i.bytes))=some (some (.int .u8 0),1,1):=by kernel_rfl
theorem Ji (s:ByteArray) (w:World) (hs:0 < s.size) (hs2:s.size≤4096):Calls Tryz.prog 108 #[.string s] w fun e w'=>e=.returned (.string s)∧Only (fun _=>False) w w':=by
 obtain⟨i0,hi,hz0,hz1,hz2⟩:=info_parts info5
 have hsz:(Tryz.prog.info? 5).map (·.size)=some 1:=by rw [hi];simp [hz1]
 have hco:Tryz.prog.cellsOf 5=1:=by simp [Program.cellsOf,hi,hz1]
 obtain⟨M,hM⟩:∃M,M=madeCells (Value.int .u8 0).cells (((s.size:Nat):Int).toNat*i0.size):=⟨_,rfl⟩
 have hMs:M.size=s.size:=by rw [hM,size_madeCells,hz1];simp
 have hmk:∀W:World,(Instr.makeSlice 22 (.int .i64 (s.size:Int)) (.int .i64 (s.size:Int))).run Tryz.prog W=.ok (.slice (some ⟨W.heap.size,0,none⟩) s.size s.size) (W.alloc (.cells M 5)):=fun W=>by
  have h:=run_make (P:=Tryz.prog) W 22 5 i0 (.int .u8 0) Tryz.underlying22 hi hz0 .i64 .i64 (s.size:Int) (s.size:Int) (by omega) (by omega) (by rw [hz2];omega) (by omega)
  rw [←hM] at h
  simpa using h
 have hcp:=Lib.run_copy_row_string (P:=Tryz.prog) (w.alloc (.cells M 5)) 22 9 3 5 w.heap.size 0 s.size s.size s M 5 Tryz.underlying22 hsz (heap_alloc_new w _) (Nat.le_refl _) (by omega)
 obtain⟨Y,hY⟩:∃Y,Y=(M.toList.take 0++Lib.byteCells s.data.toList++M.toList.drop (0+s.size)).toArray:=⟨_,rfl⟩
 rw [←hY] at hcp
 have hYl:Y.toList=Lib.byteCells s.data.toList:=by
  rw [hY,List.toList_toArray,List.take_zero,List.nil_append,List.drop_of_length_le (by rw [Array.length_toList];omega),List.append_nil]
 have hYs:Y.size=s.size:=by rw [←Array.length_toList,hYl,Lib.byteCells_length,←Lib.size_eq]
 have hgY:((w.alloc (.cells M 5)).setRow w.heap.size Y).heap[w.heap.size]?=some (.cells Y 5 (0,0)):=setRow_heap _ _ M _ 5 (0,0) (heap_alloc_new w _)
 have hne:s.data.toList≠[]:=fun e=>by rw [Lib.size_eq,e] at hs;exact absurd hs (by simp)
 have hUS:=Lib.run_unsafeString_row (P:=Tryz.prog) ((w.alloc (.cells M 5)).setRow w.heap.size Y) 191 3 9 5 Tryz.underlying191 hco w.heap.size Y.size (by unfold World.shape?;rw [hgY]) s.data.toList hne (by rw [←Lib.size_eq];omega) (by rw [←Lib.size_eq];omega)
  (fun j x hx=>Lib.cells_of_row hgY Y.size j _ (by rw [List.take_of_length_le (by rw [Array.length_toList];exact Nat.le_refl _),hYl];simp [Lib.byteCells,hx]))
 rw [←Lib.size_eq] at hUS
 have h0:((s.size:Int)==0)=false:=by rw [beq_eq_false_iff_ne];omega
 have h1:(0:Int) <(s.size:Int):=by omega
 clear hM hY
 go_enter Tryz.func108,Tryz.ntmps108
 go_wp2
 go_ret
 refine⟨rfl,?_⟩
 have hb1:Below w.heap.size w (w.alloc (.cells M 5)):=(Below.refl _ w).alloc (Nat.le_refl _) _
 have hb2:Below w.heap.size (w.alloc (.cells M 5)) ((w.alloc (.cells M 5)).setRow w.heap.size Y):=⟨rfl,rfl,rfl,by simp,fun k hk=>Go.setRow_other _ _ _ _ (by omega)⟩
 exact Below.Q4 (Lib.below_freeze (hb1.trans hb2) (p:=⟨w.heap.size,0,none⟩) (Nat.le_refl _) _) rfl
theorem lH (s:ByteArray) (w:World) (hs:0 < s.size) (hs2:s.size≤4096):Calls Tryz.prog 87 #[.string s] w fun e w'=>e=.returned (.string s)∧Only (fun _=>False) w w':=by
 go_enter Tryz.func87,Tryz.ntmps87
 go_wp2_with (go_at_call 108;refine (Ji s _ hs hs2).mono ?_;rintro e w1 ⟨rfl,ho1⟩)
 go_ret
 exact⟨rfl,ho1⟩
def strs (l:List Rl.Str):List Value:=l.map fun c=>.string (bs c)
def zT (l:List Rl.Str) (s:Rl.Str):Int:=match Rl.place l s with | some k=>(k:Int) | none=>-1
theorem Cj {l:List Rl.Str} {s:Rl.Str} (h:s∉l):zT l s=-1:=by unfold zT Rl.place;rw [if_neg h]
theorem zU {s:Rl.Str}:∀(l:List Rl.Str) (k:Nat),l[k]?=some s→(∀j,j < k→l[j]?≠some s)→l.idxOf s=k
 | [],k,h,_=>by simp at h
 | b::l,0,h,_=>by
  simp at h
  subst h
  simp
 | b::l,k+1,h,hb=>by
  have hne:b≠s:=fun e=>hb 0 (by omega) (by simp [e])
  have ih:=zU l k (by simpa using h) (fun j hj e=>hb (j+1) (by omega) (by simpa using e))
  rw [List.idxOf_cons,ih]
  have:(b==s)=false:=by simpa using hne
  rw [this];rfl
theorem Jj {l:List Rl.Str} {s:Rl.Str} {k:Nat} (hk:l[k]?=some s) (hb:∀j,j < k→l[j]?≠some s):zT l s=(k:Int):=by
 unfold zT Rl.place
 rw [if_pos (List.mem_of_getElem? hk)]
 rw [zU l k hk hb]
theorem wN (l:List Rl.Str) (s:Rl.Str) (base:Nat) (v:Value) (w:World) (hv:w.ownsRow base 9 1 v l.length (strs l)) (hl:l.length≤24):
  Calls Tryz.prog 110 #[v,.string (bs s)] w fun e w'=>e=.returned (.int .i64 (zT l s))∧w'=w:=by
 obtain⟨a,cap,rfl⟩:=ah hv
 have Hv:=zH hv
 have ht:=bZ s
 clear hv
 obtain⟨n,hn⟩:∃n,n=l.length:=⟨_,rfl⟩
 have Hn:=zH hn
 rw [←hn] at hl ⊢
 clear hn
 go_enter Tryz.func110,Tryz.ntmps110
 go_wp2_with fail
 go_loopg [8] n (fun g i wr=>∃k:Nat,g=n - k∧k≤n∧i=.int .i64 (k:Int)∧w=wr∧Hid (∀j,j < k→l[j]?≠some s))
 case atStart=>exact⟨0,rfl,Nat.zero_le _,rfl,rfl,(fun j hj=>absurd hj (Nat.not_lt_zero _):∀j,j < 0→l[j]?≠some s)⟩
 case round=>
  obtain⟨k,rfl,hk,rfl,rfl,hB⟩:=hrel
  by_cases hlt:k < n
  ·have t1:(k:Int) <(n:Int):=by omega
   obtain⟨c,hc⟩:∃c,l[k]?=some c:=⟨l[k]'(by rw [←Hn.out];omega),List.getElem?_eq_getElem _⟩
   have Hc:=zH hc
   obtain⟨g,cap',hv',hgb,hgl,hcap,hcells⟩:=ax Hv.out (by rw [←Hn.out];omega)
   have e0:a=some ⟨g,0,none⟩:=by injection hv'
   have d0:w.cell? ⟨g,k,none⟩=some (.string (bs c)):=by
    rw [hcells k (by rw [←Hn.out];omega)]
    unfold strs
    rw [List.getElem?_map,hc];rfl
   have htc:=bZ c
   subst e0
   clear hc hv' hcells
   by_cases he:s=c
   ·have q:(s==c)=true:=by simp [he]
    have He:=zH he
    clear he
    go_wp2
    go_ret
    refine⟨?_,rfl⟩
    rw [Jj (by rw [Hc.out,He.out]) hB.out];rfl
   ·have q:(s==c)=false:=by simpa using he
    have He:=zH he
    clear he
    go_wp2
    go_roundg (n -(k+1))
    case measure=>omega
    case rel=>
     refine⟨k+1,rfl,by omega,by go_num,rfl,(?_:∀j,j < k+1→l[j]?≠some s)⟩
     intro j hj e
     by_cases ej:j=k
     ·subst ej
      rw [Hc.out] at e
      injection e with e
      exact He.out e.symm
     ·exact hB.out j (by omega) e
  ·have t2:decide ((k:Int) <(n:Int))=false:=decide_eq_false (by omega)
   have hkn:k=n:=by omega
   go_wp2
   go_ret
   refine⟨?_,rfl⟩
   have hnm:s∉l:=fun hm=>by
    obtain⟨j,hj,e⟩:=List.mem_iff_getElem.1 hm
    exact hB.out j (by rw [hkn,Hn.out];exact hj) (by rw [List.getElem?_eq_getElem hj,e])
   rw [Cj hnm];rfl
theorem cK {P:Program} {ops:Array Oper} {o:Oper} {a:Act} {w:World} {K:Act→World→Prop} {Q:Exit→Act→World→Prop} {E:Prop} (hg:o.guard=none) (h:Oper.wp P o a w K Q):
  if Region.wanted o (yielded ops a.tmps)=true then Oper.wp P o a w K Q else E:=by
 have hw:Region.wanted o (yielded ops a.tmps)=true:=by simp [Region.wanted,hg]
 rw [if_pos hw]
 exact h
theorem wp_append_at {P:Program} (w:World) {o:Oper} {a:Act} {K:Act→World→Prop} {Q:Exit→Act→World→Prop} (s x:Operand) (t:TypeId)
  (ho:o.op=.call { callee:=.builtin .append,args:=#[s,x],argTypes:=#[t,t]})
  (base:Nat) (e:TypeId) (i:TypeInfo) (z:Value) (size bytes:Nat) (ht:P.underlying t=some (.slice e)) (hi:P.info? e=some i) (hz:i.zero=some z)
  (hsize:i.size=size) (hby:i.bytes=bytes) (hzs:z.cells.size=size) (hsz:0 < size)
  (v:Value) (n:Nat) (xs:List Value) (hs:a.eval s=v) (hown:w.ownsRow base e size v n xs)
  (ad:Addr) (m c:Nat) (news:List Value) (hx:a.eval x=.slice (some ad) m c) (hl:news.length=m*size) (hnews:∀j u,news[j]?=some u→w.cell? (ad.add j)=some u) (h1:∀u∈news,u.oneCell'=true)
  (h63:n+m≤maxLen) (hbytes:(n+m)*bytes≤140737488355328) (hbase:base≤w.heap.size)
  (h:∀v' w',w'.ownsRow base e size v' (n+m) (xs++news)→w.grownBy w' v.ownBlock→K (a.put o.dst v') w'):o.wp P a w K Q:=by
 obtain⟨v',w',hr,h2,h3,h4,h5⟩:=run_append_own_at (P:=P) w base t o.type e i z size bytes ht hi hz hsize hby hzs hsz v n xs hown ad m c news hl hnews h1 h63 hbytes hbase
 unfold Oper.wp execOp
 simp only [ho,resolve,invoke,builtin,Sem.run_bind,Sem.run_pure,Result.andThen_ok,List.map_toArray,List.map_cons,List.map_nil,hs,hx,hr]
 exact h v' w' h2 h3
theorem wp_put {P:Program} (w:World) {o:Oper} {a:Act} {K:Act→World→Prop} {Q:Exit→Act→World→Prop} (m x v:Operand) (t:TypeId) (hop:o.op=Op.mapUpdate t m x v)
  (k e:TypeId) (L:Keyed P k) (ht:P.underlying t=some (.map k e)) (R:Value→Option (DataW Unit × List MemPlace)) (b n:Nat) (D:DataW Unit)
  (hm:a.eval m=.map (some b)) (hown:w.ownsMap P k R b n D) (hn:n < maxLen) (key val:Value) (kl:Lit) (hx:a.eval x=key) (hv:a.eval v=val) (hkey:keyOf P k key=some kl)
  (d:DataW Unit) (ps:List MemPlace) (hval:R val=some (d,ps))
  (h:∀w',w'.ownsMap P k R b (n+1) (D.put kl d)→w.grownBy w' (some b)→K (a.put o.dst undef) w'):o.wp P a w K Q:=by
 obtain⟨w',hrun,r1,r2⟩:=hown.update L ht hn hkey hval
 unfold Oper.wp
 simp [execOp,hop,hm,hx,hv,hrun,Result.andThen]
 exact h w' r1 r2
def ints (l:List Int):List Value:=l.map (Value.int .i64)
def vk (w:World) (F:Nat→Prop):List Rl.fD→(Nat→Option Value)→Prop
 | [],_=>True
 | r::rs,c=>(c 0=some (.int .u8 r.does)∧(∃o s k,c 1=some o∧c 2=some s∧c 3=some k∧Tr w F r.left (.agg #[o,s,k]))∧(∃o s k,c 4=some o∧c 5=some s∧c 6=some k∧Tr w F r.right (.agg #[o,s,k])))∧vk w F rs (fun j=>c (j+7))
theorem vk.fu {w w':World} {F F':Nat→Prop} (hk:∀b,F b→b < w.heap.size→(∃cs z,w.heap[b]?=some (.cells cs 117 z))→F' b∧w'.heap[b]?=w.heap[b]?):∀(rs:List Rl.fD) (c:Nat→Option Value),vk w F rs c→vk w' F' rs c
 | [],_,_=>trivial
 | r::rs,c,⟨⟨h0,⟨o,s,k,h1,h2,h3,h4⟩,⟨o',s',k',h5,h6,h7,h8⟩⟩,h9⟩=>⟨⟨h0,⟨o,s,k,h1,h2,h3,Tr.fu hk _ _ h4⟩,⟨o',s',k',h5,h6,h7,Tr.fu hk _ _ h8⟩⟩,vk.fu hk rs _ h9⟩
theorem vk.zO {w:World} {F:Nat→Prop}:∀(rs:List Rl.fD) {c c':Nat→Option Value},(∀j,j < 7*rs.length→c j=c' j)→vk w F rs c→vk w F rs c'
 | [],_,_,_,_=>trivial
 | r::rs,c,c',hc,h=>by
  simp only [List.length_cons] at hc
  obtain⟨⟨h0,⟨o,s,k,h1,h2,h3,h4⟩,⟨o',s',k',h5,h6,h7,h8⟩⟩,h9⟩:=h
  exact⟨⟨(hc 0 (by omega)).symm.trans h0,⟨o,s,k,(hc 1 (by omega)).symm.trans h1,(hc 2 (by omega)).symm.trans h2,(hc 3 (by omega)).symm.trans h3,h4⟩,⟨o',s',k',(hc 4 (by omega)).symm.trans h5,(hc 5 (by omega)).symm.trans h6,(hc 6 (by omega)).symm.trans h7,h8⟩⟩,vk.zO rs (fun j hj=>hc (j+7) (by omega)) h9⟩
theorem vk.snoc {w:World} {F:Nat→Prop} {r:Rl.fD} {o s k o' s' k':Value} (hl:Tr w F r.left (.agg #[o,s,k])) (hr:Tr w F r.right (.agg #[o',s',k'])):∀(rs:List Rl.fD) (xs:List Value),xs.length=7*rs.length→vk w F rs (fun j=>xs[j]?)→vk w F (rs++[r]) (fun j=>(xs++[.int .u8 r.does,o,s,k,o',s',k'])[j]?)
 | [],xs,hx,_=>by
  obtain rfl:xs=[]:=List.length_eq_zero_iff.1 (by simpa using hx)
  exact⟨⟨rfl,⟨o,s,k,rfl,rfl,rfl,hl⟩,⟨o',s',k',rfl,rfl,rfl,hr⟩⟩,trivial⟩
 | q::rs,xs,hx,h=>by
  obtain⟨ys,zs,rfl,hy⟩:∃ys zs,xs=ys++zs∧ys.length=7:=⟨xs.take 7,xs.drop 7,(List.take_append_drop 7 xs).symm,by rw [List.length_take,hx];simp only [List.length_cons];omega⟩
  have hz:zs.length=7*rs.length:=by simp only [List.length_append,List.length_cons] at hx;omega
  obtain⟨h0,h9⟩:=h
  have e1:∀j,(ys++zs++[Value.int .u8 r.does,o,s,k,o',s',k'])[j+7]?=(zs++[Value.int .u8 r.does,o,s,k,o',s',k'])[j]?:=fun j=>by
   rw [List.append_assoc,List.getElem?_append_right (by omega),hy,Nat.add_sub_cancel]
  have e2:∀j,(ys++zs)[j+7]?=zs[j]?:=fun j=>by rw [List.getElem?_append_right (by omega),hy,Nat.add_sub_cancel]
  have e3:∀j,j < 7→(ys++zs++[Value.int .u8 r.does,o,s,k,o',s',k'])[j]?=(ys++zs)[j]?:=fun j hj=>by
   rw [List.getElem?_append_left (by rw [List.length_append];omega)]
  have ih:=vk.snoc hl hr rs zs hz (vk.zO rs (fun j _=>e2 j) h9)
  refine⟨?_,vk.zO (rs++[r]) (fun j _=>(e1 j).symm) ih⟩
  obtain⟨h0,⟨o1,s1,k1,h1,h2,h3,h4⟩,⟨o2,s2,k2,h5,h6,h7,h8⟩⟩:=h0
  exact⟨(e3 0 (by omega)).trans h0,⟨o1,s1,k1,(e3 1 (by omega)).trans h1,(e3 2 (by omega)).trans h2,(e3 3 (by omega)).trans h3,h4⟩,⟨o2,s2,k2,(e3 4 (by omega)).trans h5,(e3 5 (by omega)).trans h6,(e3 6 (by omega)).trans h7,h8⟩⟩
def BI (w:World) (B:Nat) (v:Value) (l:List Rl.fD):Prop:=∃xs,w.ownsRow B 119 7 v l.length xs∧vk w (fun b=>B≤b) l (fun j=>xs[j]?)
structure eF (w:World) (rb:Nat) (x:Rd) (s:Rl.St):Prop where
 cls:w.ownsRow (rb+1) 9 1 x.vC s.cls.length (strs s.cls)
 vo:w.ownsRow (rb+1) 3 1 x.vT s.cls.length (ints s.au)
 iE:BI w (rb+1) x.vL s.list
 mp:Mp w x.mb s.env
 jn:x.j=s.join
 af:x.a=s.after
 pl:x.pl=(s.places:Int)
 op:x.op=0
 mb:x.mb < rb
 c24:s.cls.length≤24
 Eo:s.list.length≤24
 iJ:s.places≤200
theorem BI.only {w w':World} {B:Nat} {v:Value} {l:List Rl.fD} {P:Nat→Prop} (h:BI w B v l) (ho:Only P w w') (hP:∀g,B≤g→¬ P g):BI w' B v l:=by
 obtain⟨xs,h1,h2⟩:=h
 exact⟨xs,ai h1 ho hP,h2.fu (fun b hb hl _=>⟨hb,ho.block b hl (hP b hb)⟩)⟩
theorem eF.only {w w':World} {rb:Nat} {x:Rd} {s:Rl.St} (h:eF w rb x s) (ho:Only (·=rb) w w'):eF w' rb x s:=
 ⟨ai h.cls ho (fun g hg=>by omega),ai h.vo ho (fun g hg=>by omega),h.iE.only ho (fun g hg=>by omega),h.mp.only ho (by have:=h.mb;omega),h.jn,h.af,h.pl,h.op,h.mb,h.c24,h.Eo,h.iJ⟩
theorem eF.cx {w:World} {rb:Nat} {x:Rd} {s:Rl.St} (h:eF w rb x s):Cx s.cls.length rb x s.places 0:=⟨by have:=h.mb;omega,h.pl,h.iJ,h.op,by omega,ah h.cls,h.c24⟩
theorem eF.ay {w:World} {rb:Nat} {x:Rd} {s:Rl.St} (h:eF w rb x s) {p:Nat} (hp:p≤200):eF w rb (x.ay p) { s with places:=p}:=⟨h.cls,h.vo,h.iE,h.mp,h.jn,h.af,rfl,h.op,h.mb,h.c24,h.Eo,hp⟩
def Lo (rb mb:Nat) (b:Nat):Prop:=b=mb∨rb≤b
def Fr (rb mb:Nat) (w w':World):Prop:=Only (Lo rb mb) w w'∧∀b es cl,w.heap[b]?=some (.map es cl)→b≠mb→w'.heap[b]?=w.heap[b]?
theorem Fr.trans {rb mb:Nat} {a b c:World} (h:Fr rb mb a b) (k:Fr rb mb b c):Fr rb mb a c:=
 ⟨h.1.trans k.1,fun g es cl hg hn=>(k.2 g es cl ((h.2 g es cl hg hn).trans hg) hn).trans (h.2 g es cl hg hn)⟩
def Cl (w:World) (g:Nat):Prop:=∃cs t z,w.heap[g]?=some (.cells cs t z)
theorem Cl.no {w:World} {g:Nat} (h:Cl w g) {es:Array MapEntry} {cl:Nat} (k:w.heap[g]?=some (.map es cl)):False:=by
 obtain⟨cs,t,z,h⟩:=h
 rw [h] at k
 cases k
theorem bY.cl {w:World} {rb:Nat} {S:ByteArray} {i:Int} {x:Rd} (h:bY w rb S i x):Cl w rb:=⟨_,_,_,h⟩
theorem In.cl {w:World} {rb:Nat} {S:ByteArray} {x:Rd} {ts:List Rl.Tk} (h:In w rb S x ts):Cl w rb:=by
 obtain⟨i,h,_⟩:=h
 exact h.cl
theorem Only.UO {w w':World} {g rb:Nat} (h:Only (·=g) w w') (hg:rb≤g) (hc:Cl w g) (mb:Nat):Fr rb mb w w':=
 ⟨h.mono (fun b e=>Or.inr (by omega)),fun b es cl hb _=>h.block b (Array.getElem?_eq_some_iff.1 hb).1 (fun e=>by subst e;exact hc.no hb)⟩
theorem Only.fr {w w':World} {rb:Nat} (h:Only (·=rb) w w') (hc:Cl w rb) (mb:Nat):Fr rb mb w w':=h.UO (Nat.le_refl _) hc mb
theorem Only.UQ {w w':World} {rb mb:Nat} (h:Only (·=mb) w w'):Fr rb mb w w':=⟨h.mono (fun b e=>Or.inl e),fun b es cl hb hn=>h.block b (Array.getElem?_eq_some_iff.1 hb).1 hn⟩
theorem Only.UR {w w':World} (h:Only (fun _=>False) w w') (rb mb:Nat):Fr rb mb w w':=⟨h.mono (fun b e=>e.elim),fun b es cl hb hn=>h.block b (Array.getElem?_eq_some_iff.1 hb).1 (fun e=>e)⟩
theorem Only.Jk {w w':World} {rb e size n:Nat} {v:Value} {xs:List Value} (h:Only (fun g=>v.ownBlock=some g) w w') (hx:w.ownsRow (rb+1) e size v n xs) (mb:Nat):Fr rb mb w w':=by
 refine⟨h.mono (fun b hb=>Or.inr (by have:=(hx.lt b hb).1;omega)),fun b es cl hb hn=>h.block b (Array.getElem?_eq_some_iff.1 hb).1 (fun hv=>?_)⟩
 obtain⟨_,⟨hv',_⟩ | ⟨g',cap',cur',hv',_,hh',_⟩⟩:=hx
 ·rw [hv'] at hv;cases hv
 ·rw [hv'] at hv
  injection hv with hv
  simp only at hv
  subst hv
  exact Cl.no ⟨_,_,_,hh'⟩ hb
def pq (rb:Nat) (S:ByteArray) (mb:Nat) (w:World) (F:Rl.R (List Rl.Tk × Rl.St)) (e:Ending) (w':World):Prop:=
 match F with
 | .error f=>e=.panicked (BV f.1 f.2)∧Fr rb mb w w'
 | .ok (ts,s)=>e=.returned (.tuple #[])∧∃x,x.mb=mb∧In w' rb S x ts∧eF w' rb x s∧Fr rb mb w w'
theorem qO (a b:Int):0≤Rl.gu a b∧Rl.gu a b < 4294967296:=by
 unfold Rl.gu bits
 rw [IntKind.wrap_u32]
 exact⟨Int.emod_nonneg _ (by omega),Int.emod_lt_of_pos _ (by omega)⟩
theorem iF {E:Rl.Env}:∀ {ts ts':List Rl.Tk} {a b:Int},Rl.names E ts a=.ok (b,ts')→0≤a∧a < 4294967296→0≤b∧b < 4294967296
 | [],_,_,_,h,_=>by cases h
 | t::ts,ts',a,b,h,ha=>by
  rw [uh] at h
  split at h
  ·cases h
  ·split at h
   ·split at h
    ·cases h
    ·exact iF h (qO _ _)
   ·cases h;exact ha
theorem wf_u32 {a:Int} (h:0≤a∧a < 4294967296):(Lit.int .u32 a).wf=true:=by
 have e1:IntKind.min .u32=0:=by decide
 have e2:IntKind.max .u32=4294967295:=by decide
 have h2:a≤4294967295:=by omega
 simp only [Lit.wf,e1,e2,h.1,h2,decide_true,Bool.and_self]
theorem FV (E:Rl.Env) (s:Rl.Str) (b:Int) (x:Rl.Str) (h:Rl.find E s=none):Rl.find (E++[(s,b)]) x=if s=x then some b else Rl.find E x:=by
 induction E with
 | nil=>rfl
 | cons q E ih=>
  obtain⟨s',b'⟩:=q
  unfold Rl.find at h
  rw [List.cons_append]
  unfold Rl.find
  by_cases e:s'=s
  ·rw [if_pos e] at h;cases h
  ·rw [if_neg e] at h
   by_cases e2:s'=x
   ·subst e2
    rw [if_pos rfl,if_neg (fun h=>e h.symm),if_pos rfl]
   ·rw [if_neg e2,if_neg e2,ih h]
theorem Mp.put {w w':World} {mb:Nat} {E:Rl.Env} {D:DataW Unit} {s:Rl.Str} {b:Int} (hm:IsMap D) (hD:∀s:Rl.Str,D.atKey (.string s) (.lit (.int .u32 0))=.lit (.int .u32 ((Rl.find E s).getD 0))∧Maps.has D (.string s)=(Rl.find E s).isSome)
  (h:w'.ownsMap Tryz.prog 9 (plainElem Tryz.prog 32) mb (E.length+1) (D.put (.string s) (.lit (.int .u32 b)))) (hf:Rl.find E s=none):Mp w' mb (E++[(s,b)]):=by
 have hk:WideAt.IsKeyLit (Lit.string s):=trivial
 refine⟨_,by rw [List.length_append];exact h,World.ownsMap.isMap h,fun x=>?_⟩
 rw [FV E s b x hf]
 by_cases e:s=x
 ·subst e
  rw [atKey_put_same hm hk,has_put_same hm hk,if_pos rfl]
  exact⟨rfl,rfl⟩
 ·have hne:(Lit.string x)≠(Lit.string s):=fun h=>e (by injection h with h;exact h.symm)
  rw [atKey_put_other hne,has_put_other hne,if_neg e]
  exact hD x
end Go.Proofs.YtdlabakleldgaaaGreatDoor
