/- Either Clone -/
import Derived.Test.YtchaoonefiamdaaGreatDoorZ09
import Derived.Lib.UnsafeStr
import Derived.Lib.BufferWrite
import Derived.Laws.MakeOwn
namespace Go.Proofs.YtchaoonefiamdaaGreatDoor
open Go.RowKit Go.Maps
set_option linter.unusedVariables false
set_option linter.unusedSimpArgs false
theorem either_succ (E:Rl.Env) (nc n d:Nat) (ts:List Rl.Tk) (p:Nat):Rl.either E nc (n+1) d ts p=match Rl.row E nc n d ts p [] with
    | .error f=>.error f
    | .ok (e,ts1,p1)=>Rl.alts E nc n d ts1 p1 [e]:=by simp only [Rl.either];rfl
theorem alts_succ (E:Rl.Env) (nc n d:Nat) (ts:List Rl.Tk) (p:Nat) (l:List Rl.Ex):Rl.alts E nc (n+1) d ts p l=match Rl.took 124 ts with
    | .error f=>.error f
    | .ok (false,ts1)=>.ok (Rl.mkAlt l,ts1,p)
    | .ok (true,ts1)=>match Rl.row E nc n d ts1 p [] with
      | .error f=>.error f
      | .ok (e,ts2,p2)=>Rl.alts E nc n d ts2 p2 (l++[e]):=by simp only [Rl.alts];rfl
theorem Es.first {w:World} {base:Nat} {e:Rl.Ex} {o s k:Value} (hT:Tr w (fun b=>base≤b) e (.agg #[o,s,k])) (hb:base≤w.heap.size):Es (w.alloc (.cells #[o,s,k] 88)) base (.slice (some ⟨w.heap.size,0,none⟩) 1 1) [e]:=by
  refine ⟨[o,s,k],⟨rfl,Or.inr ⟨w.heap.size,1,#[o,s,k],rfl,hb,heap_alloc_new _ _,Nat.le_refl _,by unfold maxLen;omega,rfl,rfl⟩⟩,?_⟩
  unfold Trs
  refine ⟨⟨o,s,k,rfl,rfl,rfl,hT.keep (fun b hb hl=>⟨⟨hb,fun e=>?_⟩,Below.heap_alloc _ _ _ hl⟩)⟩,by unfold Trs;trivial⟩
  simp [Value.ownBlock] at e
  omega
set_option maxRecDepth 100000 in
set_option maxHeartbeats 8000000 in
theorem either_step (E:Rl.Env) (nc rb:Nat) (S:ByteArray) (n:Nat) (hS:S.size≤4096) (hT:∀ m,m≤n→RowOk E nc rb S m):EitherOk E nc rb S (n+1):=by
  intro d p x ts w hI hM hC hn
  obtain ⟨i0,hi,hz0,hz1,hz2⟩:=info_parts info50
  have hlt:=hI.lt
  have htl:ts.length≤5000:=by have:=hI.len;omega
  have HC:Hid (Cx nc rb x p d):=hC
  have HI:Hid (In w rb S x ts):=hI
  have HM:Hid (Mp w x.mb E):=hM
  have HT:Hid (∀ m,m≤n→RowOk E nc rb S m):=hT
  have Z0:Hid (Xb (w.alloc (.cells #[.int .u8 0,.int .u32 0,.slice none 0 0] 88)) w.heap.size (.int .u8 0) (.int .u32 0) (.slice none 0 0)):=Xb.new w _ _ _
  have hp200:=hC.p200
  rw [either_succ]
  clear hI hM hC hT
  cases hrow:Rl.row E nc n d ts p [] with
  | error f =>
    have T1:Hid (Rl.row E nc n d ts p []=.error f):=hrow
    clear hrow
    simp only
    go_enter Tryz.func85,Tryz.ntmps85
    go_wp2_with (go_at_call 99;have hc:=HT.out n (Nat.le_refl _) d p x ts (w.alloc (.cells #[.int .u8 0,.int .u32 0,.slice none 0 0] 88)) (HI.out.alloc _) (HM.out.alloc _) HC.out (by omega);rw [T1.out] at hc;refine hc.mono ?_;clear hc;rintro e w1 ⟨rfl,ho1⟩)
    exact ⟨rfl,rfl,((Only.refl (·=rb) w).alloc _).trans ho1⟩
  | ok r =>
    obtain ⟨e1,ts1,p1⟩:=r
    have T1:Hid (Rl.row E nc n d ts p []=.ok (e1,ts1,p1)):=hrow
    have hln1:=(Rl.expr_len E nc n).2.2.1 _ _ _ _ _ _ _ hrow hp200
    simp only
    obtain ⟨F,hF⟩:∃ F,F=Rl.alts E nc n d ts1 p1 [e1]:=⟨_,rfl⟩
    have HF:Hid (F=Rl.alts E nc n d ts1 p1 [e1]):=hF
    rw [← hF]
    clear hrow hF
    go_enter Tryz.func85,Tryz.ntmps85
    go_wp2_with (go_at_call 99;have hc:=HT.out n (Nat.le_refl _) d p x ts (w.alloc (.cells #[.int .u8 0,.int .u32 0,.slice none 0 0] 88)) (HI.out.alloc _) (HM.out.alloc _) HC.out (by omega);rw [T1.out] at hc;refine hc.mono ?_;clear hc;rintro e w1 ⟨v1,rfl,hT1,hI1,ho1⟩;obtain ⟨o,s,a,k,c,rfl⟩:=hT1.form;have HI1:Hid (In w1 rb S (x.withPl p1) ts1):=hI1;have HT1:Hid (Tr w1 (fun b=>w.heap.size+1≤b) e1 (.agg #[.int .u8 o,.int .u32 s,.slice a k c])):=(by have:=hT1;simp only [World.alloc,Array.size_push] at this;exact this);clear hI1 hT1;have HO1:Hid (Only (·=rb) w w1):=((Only.refl (·=rb) w).alloc _).trans ho1;have Z1:Hid (Xb w1 w.heap.size (.int .u8 0) (.int .u32 0) (.slice none 0 0)):=Z0.out.only ho1 (by omega);have hl1:=Z1.out.lt)
    go_loopg [3] ts1.length (fun g v wr=>∃ (tsr:List Rl.Tk) (m pr:Nat) (l:List Rl.Ex),g=tsr.length∧In wr rb S (x.withPl pr) tsr∧Only (·=rb) w wr∧Xb wr w.heap.size (.int .u8 0) (.int .u32 0) (.slice none 0 0)∧Es wr (w.heap.size+1) v l∧l≠[]∧pr≤200∧4*tsr.length+2≤m∧m≤n∧l.length+tsr.length≤ts.length+1∧Hid (F=Rl.alts E nc m d tsr pr l))
    case atStart=>exact ⟨ts1,n,p1,[e1],rfl,HI1.out.alloc _,HO1.out.alloc _,Z1.out.alloc _,Es.first HT1.out (by omega),by simp,hln1.2,by omega,Nat.le_refl _,by simp;omega,HF.out⟩
    case round =>
      obtain ⟨tsr,m,pr,l,rfl,hIr,hOr,hZr,hEr,hlne,hpr,hm1,hm2,hll,hFr⟩:=hrel
      obtain ⟨m,rfl⟩:∃ k,m=k+1:=⟨m - 1,by omega⟩
      have HIr:Hid (In wr rb S (x.withPl pr) tsr):=hIr
      have HOr:Hid (Only (·=rb) w wr):=hOr
      have HMr:Hid (Mp wr x.mb E):=HM.out.only hOr HC.out.mb
      have HCr:Hid (Cx nc rb (x.withPl pr) pr d):=HC.out.withPl hpr
      have HZr:Hid (Xb wr w.heap.size (.int .u8 0) (.int .u32 0) (.slice none 0 0)):=hZr
      have HEr:=hEr
      have hFr':=hFr.out
      have hlz:=hZr.lt
      have Hlne:Hid (l≠[]):=hlne
      rw [alts_succ] at hFr'
      clear hIr hOr hFr hZr hEr hlne
      cases htk:Rl.took 124 tsr with
      | error f =>
        rw [htk] at hFr'
        have HE:Hid (F=.error f):=hFr'
        have T2:Hid (Rl.took 124 tsr=.error f):=htk
        clear htk hFr' HEr
        go_wp2_with (go_at_call 50;have hc:=took_any 124 rb S (x.withPl pr) tsr _ HIr.out hS;rw [T2.out] at hc;refine hc.mono ?_;clear hc;rintro e w2 ⟨rfl,ho2⟩)
        refine ⟨rfl,?_⟩
        rw [HE.out]
        exact ⟨rfl,HOr.out.trans ho2⟩
      | ok r =>
        obtain ⟨b,ts2⟩:=r
        rw [htk] at hFr'
        have T2:Hid (Rl.took 124 tsr=.ok (b,ts2)):=htk
        have hln2:=Rl.took_len htk
        clear htk
        cases b with
        | true =>
          simp only at hFr'
          have hln2':=hln2.2 rfl
          cases hrw:Rl.row E nc m d ts2 pr [] with
          | error f =>
            rw [hrw] at hFr'
            have HE:Hid (F=.error f):=hFr'
            have T3:Hid (Rl.row E nc m d ts2 pr []=.error f):=hrw
            clear hrw hFr' HEr
            go_wp2_with (first | (go_at_call 50;have hc:=took_any 124 rb S (x.withPl pr) tsr _ HIr.out hS;rw [T2.out] at hc;refine hc.mono ?_;clear hc;rintro e w2 ⟨rfl,hI2,ho2⟩;have HI2:Hid (In w2 rb S (x.withPl pr) ts2):=hI2;clear hI2;have HO2:Hid (Only (·=rb) wr w2):=ho2;clear ho2) | (go_at_call 99;have hc:=HT.out m (by omega) d pr (x.withPl pr) ts2 _ HI2.out (HMr.out.only HO2.out HC.out.mb) HCr.out (by omega);rw [T3.out] at hc;refine hc.mono ?_;clear hc;rintro e w3 ⟨rfl,ho3⟩))
            refine ⟨rfl,?_⟩
            rw [HE.out]
            exact ⟨rfl,HOr.out.trans (HO2.out.trans ho3)⟩
          | ok r =>
            obtain ⟨e2,ts3,p3⟩:=r
            rw [hrw] at hFr'
            have HE:Hid (F=Rl.alts E nc m d ts3 p3 (l++[e2])):=hFr'
            have T3:Hid (Rl.row E nc m d ts2 pr []=.ok (e2,ts3,p3)):=hrw
            have hln3:=(Rl.expr_len E nc m).2.2.1 _ _ _ _ _ _ _ hrw hpr
            obtain ⟨xs,hown,hkids⟩:=HEr
            have HOwn:Hid (wr.ownsRow (w.heap.size+1) 88 3 u3 l.length xs):=hown
            have HKid:Hid (Trs wr (Kb (w.heap.size+1) u3) l (fun j=>xs[j]?)):=hkids
            clear hrw hFr' hown hkids
            go_wp2_with (first | (go_at_call 50;have hc:=took_any 124 rb S (x.withPl pr) tsr _ HIr.out hS;rw [T2.out] at hc;refine hc.mono ?_;clear hc;rintro e w2 ⟨rfl,hI2,ho2⟩;have HI2:Hid (In w2 rb S (x.withPl pr) ts2):=hI2;clear hI2;have HO2:Hid (Only (·=rb) wr w2):=ho2;clear ho2;have hl2:=HO2.out.size) | (go_at_call 99;have hc:=HT.out m (by omega) d pr (x.withPl pr) ts2 _ HI2.out (HMr.out.only HO2.out HC.out.mb) HCr.out (by omega);rw [T3.out] at hc;refine hc.mono ?_;clear hc;rintro e w4 ⟨v4,rfl,hT4,hI4,ho4⟩;obtain ⟨o',s',a',k',c',rfl⟩:=hT4.form;have HI4:Hid (In w4 rb S (x.withPl p3) ts3):=hI4;have HT4:Hid (Tr w4 (fun b=>w2.heap.size≤b) e2 (.agg #[.int .u8 o',.int .u32 s',.slice a' k' c'])):=hT4;clear hI4 hT4;have HO4:Hid (Only (·=rb) wr w4):=HO2.out.trans ho4;have hl4:=HO4.out.size;have HOwn4:Hid (w4.ownsRow (w.heap.size+1) 88 3 u3 l.length xs):=own_only HOwn.out HO4.out (fun g hg=>by omega);have HKid4:Hid (Trs w4 (Kb (w.heap.size+1) u3) l (fun j=>xs[j]?)):=HKid.out.keep (fun b hb hl=>⟨hb,HO4.out.block b hl (by have:=hb.1;omega)⟩)) | (at_builtin;refine wpList_append_own_at _ rfl _ _ 57 rfl (w.heap.size+1) 88 i0 (.agg #[.int .u8 0,.int .u32 0,.slice none 0 0]) 3 32 Tryz.underlying57 hi hz0 hz1 hz2 rfl (by decide) _ _ _ rfl (HOwn4.out.alloc _) ⟨w4.heap.size,0,none⟩ 1 1 [.int .u8 o',.int .u32 s',.slice a' k' c'] rfl rfl (ex_news _ _ _ _) (ex_cells _ _ _ _ _) (by unfold maxLen;omega) (by omega) (by simp;omega) ?_;intro v5 w5 hown5 hg5 _ hat5))
            go_roundg ts3.length
            case measure=>omega
            case rel =>
              have hO5:Only (·=rb) w w5:=by
                refine ⟨hg5.os.trans (HOr.out.trans HO4.out).os,hg5.tape.trans (HOr.out.trans HO4.out).tape,hg5.output.trans (HOr.out.trans HO4.out).output,Nat.le_trans (Nat.le_trans (HOr.out.trans HO4.out).size (by simp)) hg5.size,fun g hgl hgn=>?_⟩
                have hlw:=(HOr.out.trans HO4.out).size
                rw [hg5.block g (by simp;omega) (fun e=>by have:=(HOwn4.out.lt g e.symm).1;omega),Below.heap_alloc _ _ _ (by omega)]
                exact (HOr.out.trans HO4.out).block g hgl hgn
              have hk5:∀ g,g < w4.heap.size→g < w.heap.size+1→w5.heap[g]?=w4.heap[g]?:=fun g h1 h2=>by
                rw [hg5.block g (by simp;omega) (fun e=>by have:=(HOwn4.out.lt g e.symm).1;omega),Below.heap_alloc _ _ _ (by omega)]
              obtain ⟨i4,hR4,hs4,hi4⟩:=HI4.out
              refine ⟨ts3,m,p3,l++[e2],rfl,⟨i4,(hk5 rb hR4.lt (by omega)).trans hR4,hs4,hi4⟩,hO5,(hk5 w.heap.size (by omega) (by omega)).trans (HZr.out.only HO4.out (by omega)),?_,by simp,hln3.2,by omega,by omega,by simp;omega,HE.out⟩
              refine Es.snoc HOwn4.out HKid4.out HT4.out (fun b hb=>⟨by omega,fun e=>?_⟩) hown5 hg5 hat5
              have:=(HOwn.out.lt b e).2
              omega
        | false =>
          simp only at hFr'
          have HE:Hid (F=.ok (Rl.mkAlt l,ts2,pr)):=hFr'
          clear hFr'
          have HEs:Hid (Es wr (w.heap.size+1) u3 l):=HEr
          obtain ⟨xs,hown,hkids⟩:=HEr
          match l,HEs,HE,hown,hkids,Hlne with
          | [],HEs,HE,hown,hkids,Hlne=>exact absurd rfl Hlne.out
          | [e0],HEs,HE,hown,hkids,Hlne =>
            obtain ⟨o',s',k',rfl,hT2⟩:=hkids.one hown.1
            obtain ⟨g,cap,rfl,hgb,hgl,hcap,hcells⟩:=row_form hown (by simp)
            have HT2:Hid (Tr wr (Kb (w.heap.size+1) (.slice (some ⟨g,0,none⟩) 1 cap)) e0 (.agg #[o',s',k'])):=hT2
            have K0:Hid (wr.cell? ⟨g,0,none⟩=some o'):=hcells 0 (by simp)
            have K1:Hid (wr.cell? ⟨g,1,none⟩=some s'):=hcells 1 (by simp)
            have K2:Hid (wr.cell? ⟨g,2,none⟩=some k'):=hcells 2 (by simp)
            obtain ⟨op,st,a',n',c',hform⟩:=hT2.form
            simp only [Value.agg.injEq,Array.mk.injEq,List.cons.injEq,and_true] at hform
            obtain ⟨rfl,rfl,rfl⟩:=hform
            clear hown hkids hcells hT2
            go_wp2_with (go_at_call 50;have hc:=took_any 124 rb S (x.withPl pr) tsr _ HIr.out hS;rw [T2.out] at hc;refine hc.mono ?_;clear hc;rintro e w2 ⟨rfl,hI2,ho2⟩;have HI2:Hid (In w2 rb S (x.withPl pr) ts2):=hI2;clear hI2;have HO2:Hid (Only (·=rb) wr w2):=ho2;clear ho2;have Z2:Hid (Xb w2 w.heap.size (.int .u8 0) (.int .u32 0) (.slice none 0 0)):=HZr.out.only HO2.out (by omega);have z0:=Z2.out.c0;have z1:=Z2.out.c1;have z2:=Z2.out.c2;have zf0:=Z2.out.fz 0;have zf1:=Z2.out.fz 1;have zf2:=Z2.out.fz 2;have j0:=(World.cell?_of_block (a:=⟨g,0,none⟩) (HO2.out.block g hgl (by omega))).trans K0.out;have j1:=(World.cell?_of_block (a:=⟨g,1,none⟩) (HO2.out.block g hgl (by omega))).trans K1.out;have j2:=(World.cell?_of_block (a:=⟨g,2,none⟩) (HO2.out.block g hgl (by omega))).trans K2.out)
            refine bodyPost_ret (v:=.agg #[.int .u8 op,.int .u32 st,.slice a' n' c']) (results_x rfl _ rfl (Z2.out.set3 _ _ _)) rfl ?_
            rw [HE.out]
            refine ⟨_,rfl,?_,HI2.out.set3 (z:=w.heap.size) (by omega) _ _ _,(HOr.out.trans HO2.out).set3 (z:=w.heap.size) (Nat.le_refl _) _ _ _⟩
            refine HT2.out.keep fun b hb hl=>⟨by have:=hb.1;omega,?_⟩
            exact (set3_other w2 (z:=w.heap.size) _ _ _ (by have:=hb.1;omega)).trans (HO2.out.block b hl (by have:=hb.1;omega))
          | e0 :: e2 :: l2,HEs,HE,hown,hkids,Hlne =>
            obtain ⟨a',cap,rfl⟩:=own_form hown
            have q1:(((e0 :: e2 :: l2).length:Int) == 1)=false:=by simp;omega
            have Hown:Hid (wr.ownsRow (w.heap.size+1) 88 3 (.slice a' (e0 :: e2 :: l2).length cap) (e0 :: e2 :: l2).length xs):=hown
            have Hkids:Hid (Trs wr (Kb (w.heap.size+1) (.slice a' (e0 :: e2 :: l2).length cap)) (e0 :: e2 :: l2) (fun j=>xs[j]?)):=hkids
            clear hown hkids
            generalize hL:e0 :: e2 :: l2=L at *
            have HL:Hid (e0 :: e2 :: l2=L):=hL
            clear hL
            go_wp2_with (go_at_call 50;have hc:=took_any 124 rb S (x.withPl pr) tsr _ HIr.out hS;rw [T2.out] at hc;refine hc.mono ?_;clear hc;rintro e w2 ⟨rfl,hI2,ho2⟩;have HI2:Hid (In w2 rb S (x.withPl pr) ts2):=hI2;clear hI2;have HO2:Hid (Only (·=rb) wr w2):=ho2;clear ho2;have Z2:Hid (Xb w2 w.heap.size (.int .u8 0) (.int .u32 0) (.slice none 0 0)):=HZr.out.only HO2.out (by omega);have z0:=Z2.out.c0;have z1:=Z2.out.c1;have z2:=Z2.out.c2;have zf0:=Z2.out.fz 0;have zf1:=Z2.out.fz 1;have zf2:=Z2.out.fz 2)
            refine bodyPost_ret (v:=.agg #[.int .u8 3,.int .u32 0,.slice a' L.length cap]) (results_x rfl _ rfl (Z2.out.set3 _ _ _)) rfl ?_
            have hmk:Rl.mkAlt L=.mk 3 0 L:=by rw [← HL.out];rfl
            rw [HE.out,hmk]
            refine ⟨_,rfl,?_,HI2.out.set3 (z:=w.heap.size) (by omega) _ _ _,(HOr.out.trans HO2.out).set3 (z:=w.heap.size) (Nat.le_refl _) _ _ _⟩
            have hT:=Tr.row (F':=fun b=>w.heap.size+1≤b) 3 Hown.out Hkids.out (fun g hg=>(Hown.out.lt g hg).1) (fun b hb=>hb.1) (by rw [← HL.out];simp)
            refine hT.keep fun b hb hl=>⟨by omega,?_⟩
            exact (set3_other w2 (z:=w.heap.size) _ _ _ (by omega)).trans (HO2.out.block b hl (by omega))
theorem exprs_all (E:Rl.Env) (nc rb:Nat) (S:ByteArray) (hS:S.size≤4096):∀ n,(∀ m,m≤n→EitherOk E nc rb S m)∧(∀ m,m≤n→ThingOk E nc rb S m)∧(∀ m,m≤n→RowOk E nc rb S m)
  | 0=>by
    refine ⟨fun m hm=>?_,fun m hm=>?_,fun m hm=>?_⟩
    · intro d p x ts w _ _ _ h;omega
    · intro d p x t ts w _ _ _ _ _ h;omega
    · intro d p x ts w _ _ _ h;omega
  | n+1=>by
    obtain ⟨h1,h2,h3⟩:=exprs_all E nc rb S hS n
    have e1:EitherOk E nc rb S (n+1):=either_step E nc rb S n hS h3
    have e2:ThingOk E nc rb S (n+1):=thing_step E nc rb S n hS (h1 n (Nat.le_refl _))
    have e3:RowOk E nc rb S (n+1):=row_step E nc rb S (n+1) hS (fun m hm=>h2 m (by omega))
    refine ⟨fun m hm=>?_,fun m hm=>?_,fun m hm=>?_⟩
    · by_cases e:m=n+1
      · rw [e];exact e1
      · exact h1 m (by omega)
    · by_cases e:m=n+1
      · rw [e];exact e2
      · exact h2 m (by omega)
    · by_cases e:m=n+1
      · rw [e];exact e3
      · exact h3 m (by omega)
theorem either_any (E:Rl.Env) (nc rb:Nat) (S:ByteArray) (hS:S.size≤4096) (n:Nat):EitherOk E nc rb S n:=(exprs_all E nc rb S hS n).1 n (Nat.le_refl _)
end Go.Proofs.YtchaoonefiamdaaGreatDoor
namespace Go.Proofs.YtchaoonefiamdaaGreatDoor
open Go.RowKit Go.Maps
set_option linter.unusedVariables false
set_option linter.unusedSimpArgs false
theorem Below.toOnly {B:Nat} {w w':World} (h:Below B w w') (hB:B=w.heap.size):Only (fun _=>False) w w':=⟨h.os,h.tape,h.output,h.size,fun g hg _=>h.block g (by omega)⟩
theorem info5:(Tryz.prog.info? 5).map (fun i=>(i.zero,i.size,i.bytes))=some (some (.int .u8 0),1,1):=by kernel_rfl
set_option maxRecDepth 100000 in
set_option maxHeartbeats 4000000 in
theorem clone_in (s:ByteArray) (w:World) (hs:0 < s.size) (hs2:s.size≤4096):Calls Tryz.prog 82 #[.string s] w fun e w'=>e=.returned (.string s)∧Only (fun _=>False) w w':=by
  obtain ⟨i0,hi,hz0,hz1,hz2⟩:=info_parts info5
  have hsz:(Tryz.prog.info? 5).map (·.size)=some 1:=by rw [hi];simp [hz1]
  have hco:Tryz.prog.cellsOf 5=1:=by simp [Program.cellsOf,hi,hz1]
  obtain ⟨M,hM⟩:∃ M,M=madeCells (Value.int .u8 0).cells (((s.size:Nat):Int).toNat*i0.size):=⟨_,rfl⟩
  have hMs:M.size=s.size:=by rw [hM,size_madeCells,hz1];simp
  have hmk:∀ W:World,(Instr.makeSlice 22 (.int .i64 (s.size:Int)) (.int .i64 (s.size:Int))).run Tryz.prog W=.ok (.slice (some ⟨W.heap.size,0,none⟩) s.size s.size) (W.alloc (.cells M 5)):=fun W=>by
    have h:=run_make (P:=Tryz.prog) W 22 5 i0 (.int .u8 0) Tryz.underlying22 hi hz0 .i64 .i64 (s.size:Int) (s.size:Int) (by omega) (by omega) (by rw [hz2];omega) (by omega)
    rw [← hM] at h
    simpa using h
  have hcp:=Lib.run_copy_row_string (P:=Tryz.prog) (w.alloc (.cells M 5)) 22 9 3 5 w.heap.size 0 s.size s.size s M 5 Tryz.underlying22 hsz (heap_alloc_new w _) (Nat.le_refl _) (by omega)
  obtain ⟨Y,hY⟩:∃ Y,Y=(M.toList.take 0++Lib.byteCells s.data.toList++M.toList.drop (0+s.size)).toArray:=⟨_,rfl⟩
  rw [← hY] at hcp
  have hYl:Y.toList=Lib.byteCells s.data.toList:=by
    rw [hY,List.toList_toArray,List.take_zero,List.nil_append,List.drop_of_length_le (by rw [Array.length_toList];omega),List.append_nil]
  have hYs:Y.size=s.size:=by rw [← Array.length_toList,hYl,Lib.byteCells_length,← Lib.size_eq]
  have hgY:((w.alloc (.cells M 5)).setRow w.heap.size Y).heap[w.heap.size]?=some (.cells Y 5 (0,0)):=setRow_heap _ _ M _ 5 (0,0) (heap_alloc_new w _)
  have hne:s.data.toList≠[]:=fun e=>by rw [Lib.size_eq,e] at hs;exact absurd hs (by simp)
  have hUS:=Lib.run_unsafeString_row (P:=Tryz.prog) ((w.alloc (.cells M 5)).setRow w.heap.size Y) 166 3 9 5 Tryz.underlying166 hco w.heap.size Y.size (by unfold World.shape?;rw [hgY]) s.data.toList hne (by rw [← Lib.size_eq];omega) (by rw [← Lib.size_eq];omega)
    (fun j x hx=>Lib.cells_of_row hgY Y.size j _ (by rw [List.take_of_length_le (by rw [Array.length_toList];exact Nat.le_refl _),hYl];simp [Lib.byteCells,hx]))
  rw [← Lib.size_eq] at hUS
  have h0:((s.size:Int) == 0)=false:=by rw [beq_eq_false_iff_ne];omega
  have h1:(0:Int) < (s.size:Int):=by omega
  clear hM hY
  go_enter Tryz.func82,Tryz.ntmps82
  go_wp2
  go_ret
  refine ⟨rfl,?_⟩
  have hb1:Below w.heap.size w (w.alloc (.cells M 5)):=(Below.refl _ w).alloc (Nat.le_refl _) _
  have hb2:Below w.heap.size (w.alloc (.cells M 5)) ((w.alloc (.cells M 5)).setRow w.heap.size Y):=⟨rfl,rfl,rfl,by simp,fun k hk=>Go.setRow_other _ _ _ _ (by omega)⟩
  exact Below.toOnly (Lib.below_freeze (hb1.trans hb2) (p:=⟨w.heap.size,0,none⟩) (Nat.le_refl _) _) rfl
theorem clone_any (s:ByteArray) (w:World) (hs:0 < s.size) (hs2:s.size≤4096):Calls Tryz.prog 62 #[.string s] w fun e w'=>e=.returned (.string s)∧Only (fun _=>False) w w':=by
  go_enter Tryz.func62,Tryz.ntmps62
  go_wp2_with (go_at_call 82;refine (clone_in s _ hs hs2).mono ?_;rintro e w1 ⟨rfl,ho1⟩)
  go_ret
  exact ⟨rfl,ho1⟩
def strs (l:List Rl.Str):List Value:=l.map fun c=>.string (bs c)
def idxI (l:List Rl.Str) (s:Rl.Str):Int:=match Rl.place l s with | some k=>(k:Int) | none=>-1
theorem place_none {l:List Rl.Str} {s:Rl.Str} (h:s ∉ l):idxI l s=-1:=by unfold idxI Rl.place;rw [if_neg h]
theorem idxOf_at {s:Rl.Str}:∀ (l:List Rl.Str) (k:Nat),l[k]?=some s→(∀ j,j < k→l[j]?≠some s)→l.idxOf s=k
  | [],k,h,_=>by simp at h
  | b :: l,0,h,_=>by
    simp at h
    subst h
    simp
  | b :: l,k+1,h,hb=>by
    have hne:b≠s:=fun e=>hb 0 (by omega) (by simp [e])
    have ih:=idxOf_at l k (by simpa using h) (fun j hj e=>hb (j+1) (by omega) (by simpa using e))
    rw [List.idxOf_cons,ih]
    have:(b == s)=false:=by simpa using hne
    rw [this];rfl
theorem place_at {l:List Rl.Str} {s:Rl.Str} {k:Nat} (hk:l[k]?=some s) (hb:∀ j,j < k→l[j]?≠some s):idxI l s=(k:Int):=by
  unfold idxI Rl.place
  rw [if_pos (List.mem_of_getElem? hk)]
  rw [idxOf_at l k hk hb]
set_option maxRecDepth 100000 in
set_option maxHeartbeats 4000000 in
theorem index_any (l:List Rl.Str) (s:Rl.Str) (base:Nat) (v:Value) (w:World) (hv:w.ownsRow base 9 1 v l.length (strs l)) (hl:l.length≤24) :
    Calls Tryz.prog 84 #[v,.string (bs s)] w fun e w'=>e=.returned (.int .i64 (idxI l s))∧w'=w:=by
  obtain ⟨a,cap,rfl⟩:=own_form hv
  have Hv:Hid (w.ownsRow base 9 1 (.slice a l.length cap) l.length (strs l)):=hv
  have ht:=bs_toList s
  clear hv
  obtain ⟨n,hn⟩:∃ n,n=l.length:=⟨_,rfl⟩
  have Hn:Hid (n=l.length):=hn
  rw [← hn] at hl ⊢
  clear hn
  go_enter Tryz.func84,Tryz.ntmps84
  go_wp2_with fail
  go_loopg [8] n (fun g i wr=>∃ k:Nat,g=n - k∧k≤n∧i=.int .i64 (k:Int)∧w=wr∧Hid (∀ j,j < k→l[j]?≠some s))
  case atStart=>exact ⟨0,rfl,Nat.zero_le _,rfl,rfl,(fun j hj=>absurd hj (Nat.not_lt_zero _):∀ j,j < 0→l[j]?≠some s)⟩
  case round =>
    obtain ⟨k,rfl,hk,rfl,rfl,hB⟩:=hrel
    by_cases hlt:k < n
    · have t1:(k:Int) < (n:Int):=by omega
      obtain ⟨c,hc⟩:∃ c,l[k]?=some c:=⟨l[k]'(by rw [← Hn.out];omega),List.getElem?_eq_getElem _⟩
      have Hc:Hid (l[k]?=some c):=hc
      obtain ⟨g,cap',hv',hgb,hgl,hcap,hcells⟩:=row_form Hv.out (by rw [← Hn.out];omega)
      have e0:a=some ⟨g,0,none⟩:=by injection hv'
      have d0:w.cell? ⟨g,k,none⟩=some (.string (bs c)):=by
        rw [hcells k (by rw [← Hn.out];omega)]
        unfold strs
        rw [List.getElem?_map,hc];rfl
      have htc:=bs_toList c
      subst e0
      clear hc hv' hcells
      by_cases he:s=c
      · have q:(s == c)=true:=by simp [he]
        have He:Hid (s=c):=he
        clear he
        go_wp2
        go_ret
        refine ⟨?_,rfl⟩
        rw [place_at (by rw [Hc.out,He.out]) hB.out];rfl
      · have q:(s == c)=false:=by simpa using he
        have He:Hid (¬ s=c):=he
        clear he
        go_wp2
        go_roundg (n - (k+1))
        case measure=>omega
        case rel =>
          refine ⟨k+1,rfl,by omega,by go_num,rfl,(?_:∀ j,j < k+1→l[j]?≠some s)⟩
          intro j hj e
          by_cases ej:j=k
          · subst ej
            rw [Hc.out] at e
            injection e with e
            exact He.out e.symm
          · exact hB.out j (by omega) e
    · have t2:decide ((k:Int) < (n:Int))=false:=decide_eq_false (by omega)
      have hkn:k=n:=by omega
      go_wp2
      go_ret
      refine ⟨?_,rfl⟩
      have hnm:s ∉ l:=fun hm=>by
        obtain ⟨j,hj,e⟩:=List.mem_iff_getElem.1 hm
        exact hB.out j (by rw [hkn,Hn.out];exact hj) (by rw [List.getElem?_eq_getElem hj,e])
      rw [place_none hnm];rfl
end Go.Proofs.YtchaoonefiamdaaGreatDoor
