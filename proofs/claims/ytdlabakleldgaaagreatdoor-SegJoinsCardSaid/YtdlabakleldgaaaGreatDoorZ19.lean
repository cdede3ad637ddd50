/- Class2 Kinds Catch -/
import Derived.Test.YtdlabakleldgaaaGreatDoorZ00
import Derived.Test.YtdlabakleldgaaaGreatDoorZ18
import Derived.Recover
import Derived.Laws.Pointers
set_option linter.unusedVariables false
set_option linter.unusedSimpArgs false
set_option maxRecDepth 100000
set_option maxHeartbeats 8000000
namespace Go.Proofs.YtdlabakleldgaaaGreatDoor
open Go.RowKit Go.Maps
theorem fT (t:Rl.Tk) (ts:List Rl.Tk) (s:Rl.St):Rl.classes (t::ts) s=if t.bad=true then .error (20,t.at') else if Rl.fe t=true then
   if (Rl.find s.env t.text).isSome=true then .error (23,t.at') else if s.cls.length=24 then .error (24,t.at') else Rl.classes ts (Rl.addClass s t.text)
  else .ok (t::ts,s):=rfl
theorem CO {E:Rl.Env} {t:Rl.Tk} {ts:List Rl.Tk} (hb:¬ t.bad=true) (hn:Rl.fe t=true):Rl.fresh E (t::ts)=if (Rl.find E t.text).isSome=true then .error (23,t.at') else .ok (t,ts):=by
 unfold Rl.fresh
 rw [lv,if_neg hb,if_pos hn]
theorem wT.of {w w':World} {rb:Nat} {x:Rd} {s:Rl.St} {C:List Rl.Str} {T:List Int} (h:wT w rb x s C T) (ho:Only (fun _=>False) w w'):wT w' rb x s C T:=⟨ai h.cls ho (fun _ _ h=>h),ai h.vo ho (fun _ _ h=>h),h.iE.only ho (fun _ _ h=>h),h.mp.only ho (fun h=>h),h.jn,h.af,h.pl,h.op,h.mb,h.Eo,h.iJ⟩
theorem lI (rb:Nat) (S:ByteArray) (x:Rd) (s:Rl.St) (ts:List Rl.Tk) (w:World) (h:In w rb S x ts) (hS:S.size≤4096) (hT:eF w rb x s) (tx:Rl.Str) (ti:Nat) (hen:s.env.length+ts.length≤5000):
  Calls Tryz.prog 64 #[.pointer (some ⟨rb,0,none⟩),.agg #[.string (bs tx),.int .i64 (ti:Int)]] w (pq rb S x.mb w (Rl.classes ts s)):=by
 obtain⟨i9,h9,PO,zN,PQ⟩:=info_parts JG
 obtain⟨i0,hi,hz0,hz1,hz2⟩:=info_parts info3
 have hlt:=h.lt
 have HI:=zH h
 have HS:=zH hT
 obtain⟨F,hF⟩:∃F,F=Rl.classes ts s:=⟨_,rfl⟩
 have HF:=zH hF
 rw [←hF]
 have UX:=hT.mb
 clear hF hT h
 go_enter Tryz.func64,Tryz.ntmps64
 go_wp2_with fail
 go_loopg [] ts.length (fun g wr=>∃(bH:List Rl.Tk) (xr:Rd) (sr:Rl.St),g=bH.length∧xr.mb=x.mb∧In wr rb S xr bH∧eF wr rb xr sr∧Fr rb x.mb w wr∧sr.env.length+bH.length≤5000∧Hid (F=Rl.classes bH sr))
 case atStart=>exact⟨ts,x,s,rfl,rfl,HI.out.alloc _,HS.out.only ((Only.refl (·=rb) w).alloc _),((Only.refl (·=rb) w).alloc _).fr HI.out.cl _,hen,HF.out⟩
 case round=>
  obtain⟨bH,xr,sr,rfl,hmb,zm,hSr,hOr,RH,Ej⟩:=hrel
  cases bH with
  | nil=>obtain⟨i,_,h2,_⟩:=zm;exact h2.elim
  | cons t bH=>
   have Kl:=zH hmb
   have iT:=zH zm
   have Km:=zH hSr
   have HOr:=zH hOr
   have hmr:xr.mb≠rb:=by rw [hmb];omega
   have aJ:=Ej.out
   rw [fT] at aJ
   simp only [List.length_cons] at RH
   clear hmb zm hSr hOr Ej
   by_cases hb:t.bad=true
   ·have HB:=zH hb
    rw [if_pos hb] at aJ
    have HE:=zH aJ
    clear hb aJ
    go_wp2_with (go_at_call 52;refine (iZ rb S xr t bH _ iT.out hS HB.out).mono ?_;rintro e w1 ⟨rfl,ho1⟩)
    refine⟨rfl,?_⟩
    rw [HE.out]
    exact⟨rfl,HOr.out.trans (ho1.fr iT.out.cl _)⟩
   ·have HB:=zH hb
    rw [if_neg hb] at aJ
    by_cases hnm:Rl.fe t=true
    ·have hq:decide (0 < Rl.jR t.text)=true:=hnm
     have HNM:=zH hnm
     have Jd:Hid (t.text≠[]):=Ei hnm
     rw [if_pos hnm] at aJ
     have hfr:=CO (E:=sr.env) (ts:=bH) hb hnm
     by_cases hfi:(Rl.find sr.env t.text).isSome=true
     ·rw [if_pos hfi] at aJ hfr
      have HE:=zH aJ
      have T1:=zH hfr
      clear hb hnm aJ hfr hfi
      go_wp2_with (first |(go_at_call 52;refine (bB rb S xr t bH _ iT.out hS HB.out).mono ?_;rintro e w1 ⟨rfl,az,hs1,he1,ho1⟩;have HI1:Hid (In w1 rb S xr (t::bH)):=⟨_,az,hs1,by omega⟩;clear az hs1) |(go_at_call 85;refine (bN t.text _ _ (by omega)).mono ?_;rintro e w2 ⟨rfl,ho2⟩;have HI2:Hid (In w2 rb S xr (t::bH)):=HI1.out.only ho2 (fun h=>h);have aK:Hid (Only (·=rb) wr w2):=ho1.trans (ho2.mono (fun _ h=>h.elim))) |(go_at_call 86;have hc:=dm sr.env rb S xr (t::bH) _ HI2.out hS (Km.out.only aK.out).mp hmr;rw [T1.out] at hc;refine hc.mono ?_;clear hc;rintro e w3 ⟨rfl,ho3⟩))
      refine⟨rfl,?_⟩
      rw [HE.out]
      exact⟨rfl,HOr.out.trans ((aK.out.trans ho3).fr iT.out.cl _)⟩
     ·rw [if_neg hfi] at aJ hfr
      have T1:=zH hfr
      have YV:Hid (Rl.find sr.env t.text=none):=(by simpa using hfi:Rl.find sr.env t.text=none)
      obtain⟨aC,jW,vS⟩:=ah Km.out.cls
      have wW:=zH vS
      have hc24:=Km.out.c24
      clear hb hnm hfr hfi vS
      by_cases vz:sr.cls.length=24
      ·rw [if_pos vz] at aJ
       have HE:=zH aJ
       have q24:((sr.cls.length:Int)==24)=true:=by simp;omega
       clear aJ vz
       go_wp2_with (first |(go_at_call 52;refine (bB rb S xr t bH _ iT.out hS HB.out).mono ?_;rintro e w1 ⟨rfl,az,hs1,he1,ho1⟩;have HI1:Hid (In w1 rb S xr (t::bH)):=⟨_,az,hs1,by omega⟩;clear az hs1) |(go_at_call 85;refine (bN t.text _ _ (by omega)).mono ?_;rintro e w2 ⟨rfl,ho2⟩;have HI2:Hid (In w2 rb S xr (t::bH)):=HI1.out.only ho2 (fun h=>h);have aK:Hid (Only (·=rb) wr w2):=ho1.trans (ho2.mono (fun _ h=>h.elim))) |(go_at_call 86;have hc:=dm sr.env rb S xr (t::bH) _ HI2.out hS (Km.out.only aK.out).mp hmr;rw [T1.out] at hc;refine hc.mono ?_;clear hc;rintro e w3 ⟨rfl,dQ,ho3⟩;obtain⟨i3,cz,hs3⟩:=dQ;have d2:w3.cell? ⟨rb,2,none⟩=some (.slice aC sr.cls.length jW):=(by rw [←wW.out];exact cz.c2);have hl3:=cz.lt;clear cz hs3) |(go_at_call 53;refine (bR 24 t.at' _).mono ?_;rintro e w4 ⟨rfl,rfl⟩))
       refine⟨rfl,?_⟩
       rw [HE.out]
       exact⟨rfl,HOr.out.trans (((aK.out.trans ho3).alloc _).fr iT.out.cl _)⟩
      ·rw [if_neg vz] at aJ
       have HE:=zH aJ
       have q24:((sr.cls.length:Int)==24)=false:=by simp;omega
       have hcl:sr.cls.length < 24:=by omega
       clear aJ vz
       go_wp2_with (first |(go_at_call 52;refine (bB rb S xr t bH _ iT.out hS HB.out).mono ?_;rintro e w1 ⟨rfl,az,hs1,he1,ho1⟩;have HI1:Hid (In w1 rb S xr (t::bH)):=⟨_,az,hs1,by omega⟩;clear az hs1) |(go_at_call 85;refine (bN t.text _ _ (by omega)).mono ?_;rintro e w2 ⟨rfl,ho2⟩;have HI2:Hid (In w2 rb S xr (t::bH)):=HI1.out.only ho2 (fun h=>h);have aK:Hid (Only (·=rb) wr w2):=ho1.trans (ho2.mono (fun _ h=>h.elim))) |(go_at_call 86;have hc:=dm sr.env rb S xr (t::bH) _ HI2.out hS (Km.out.only aK.out).mp hmr;rw [T1.out] at hc;refine hc.mono ?_;clear hc;rintro e w3 ⟨rfl,dQ,ho3⟩;obtain⟨i3,cz,hs3⟩:=dQ;have d2:w3.cell? ⟨rb,2,none⟩=some (.slice aC sr.cls.length jW):=(by rw [←wW.out];exact cz.c2);have hl3:=cz.lt;have HR3:=zH cz;have Hs3:=zH hs3;clear cz hs3;have fK:Hid (Only (·=rb) wr w3):=aK.out.trans ho3))
       have Ij:Hid (bY (w3.alloc (.cells #[.string (bs t.text),.int .i64 (t.at':Int)] 108)).drew rb S (i3:Int) xr):=(HR3.out.alloc _).drew
       have d2a:(w3.alloc (.cells #[.string (bs t.text),.int .i64 (t.at':Int)] 108)).drew.cell? ⟨rb,2,none⟩=some (.slice aC sr.cls.length jW):=by rw [←wW.out];exact Ij.out.c2
       have NS:Hid (Pb (w3.alloc (.cells #[.string (bs t.text),.int .i64 (t.at':Int)] 108)).drew w3.heap.size t.text t.at'):=Pb.new w3 _ _
       have Vu:Hid (wT (w3.alloc (.cells #[.string (bs t.text),.int .i64 (t.at':Int)] 108)).drew rb xr sr sr.cls sr.au):=(Km.out.only ((fK.out.alloc _).drew)).prt
       have iA:Hid (Fr rb x.mb w (w3.alloc (.cells #[.string (bs t.text),.int .i64 (t.at':Int)] 108)).drew):=HOr.out.trans (((fK.out.alloc _).drew).fr iT.out.cl _)
       go_cut [] from 6 to 55 (fun wq=>∃W v',W=wq∧bY W rb S (i3:Int) { xr with vC:=v'}∧wT W rb { xr with vC:=v'} sr (sr.cls++[t.text]) sr.au∧Fr rb x.mb w W∧Pb W w3.heap.size t.text t.at')
       case first=>
        refine wp_region_held_drew (S:=fun w'=>Pb w' w3.heap.size t.text t.at') (by kernel_rfl) NS.out (fun hHeld=>?_)
        refine bQ (i:=0) (v:=Value.pointer (some ⟨rb,0,none⟩)) rfl ?_
        simp only [Act.put,zA,zB,zC]
        refine bQ (i:=1) (v:=Value.pointer (some ⟨rb,0,none⟩)) rfl ?_
        simp only [Act.put,zA,zB,zC]
        refine bQ (i:=2) (v:=Value.pointer (some ⟨rb,0,none⟩)) rfl ?_
        simp only [Act.put,zA,zB,zC]
        refine bQ (i:=3) (v:=Value.pointer (some ⟨rb,2,none⟩)) rfl ?_
        simp only [Act.put,zA,zB,zC]
        refine bQ (i:=4) (v:=Value.pointer (some ⟨rb,2,none⟩)) rfl ?_
        simp only [Act.put,zA,zB,zC]
        refine bQ (i:=6) (v:=Value.pointer (some ⟨w3.heap.size,0,none⟩)) rfl ?_
        simp only [Act.put,zA,zB,zC]
        refine tk (i:=7) (v:=.string (bs t.text)) rfl (Or.inl ⟨by rfl,fun w hSw=>by have q0:=Pb.c0 hSw;clear hSw;go_simp⟩) ?_
        simp only [Act.put,zA,zB,zC]
        refine wpAnyH_ready (rs:=[5,8]) (by kernel_rfl) (by simp) ?_
        refine AllReadyH.cons rfl (fun K hK=>?_) (AllReadyH.cons rfl (fun K hK=>?_) AllReadyH.nil)
        ·rw [if_pos (by rfl)]
         go_simp
         refine hK.out _ _ NS.out (fun iK=>?_)
         clear hK
         refine wpAnyH_ready (rs:=[8]) (by kernel_rfl) (by simp) ?_
         refine AllReadyH.cons rfl (fun K hK=>?_) AllReadyH.nil
         rw [if_pos (by rfl)]
         go_simp
         refine (lH (bs t.text) _ (by rw [bf];exact List.length_pos_iff.2 Jd.out) (by rw [bf];omega)).mono ?_
         rintro e w4 ⟨rfl,bI⟩
         have HR4:Hid (bY w4 rb S (i3:Int) xr):=Ij.out.only bI (fun h=>h)
         have sH:Hid (wT w4 rb xr sr sr.cls sr.au):=Vu.out.of bI
         have uB:Hid (Pb w4 w3.heap.size t.text t.at'):=NS.out.only bI (fun h=>h)
         have eD:Hid (Fr rb x.mb w w4):=iA.out.trans (bI.UR _ _)
         have Zk:Hid (w4.ownsRow (rb+1) 9 1 (.slice aC sr.cls.length jW) sr.cls.length (strs sr.cls)):=(by have:=sH.out.cls;rw [wW.out] at this;exact this)
         have hl4:=HR4.out.lt
         have d2b:w4.cell? ⟨rb,2,none⟩=some (.slice aC sr.cls.length jW):=(by rw [←wW.out];exact HR4.out.c2)
         have d2c:(w4.alloc (.cells #[.string (bs t.text)] 9)).cell? ⟨rb,2,none⟩=some (.slice aC sr.cls.length jW):=(by rw [←wW.out];exact (HR4.out.alloc _).c2)
         have RI:=bI.size
         simp only [World.drew,World.alloc,Array.size_push] at RI
         refine hK.out _ _ uB.out (fun nQ=>?_)
         clear hK
         refine wpAnyH_ready (rs:=[9]) (by kernel_rfl) (by simp) ?_
         refine AllReadyH.cons rfl (fun K hK=>?_) AllReadyH.nil
         rw [if_pos (by rfl)]
         go_simp
         refine hK.out _ _ (uB.out.alloc _) (fun Ko=>?_)
         clear hK
         refine wpAnyH_ready (rs:=[10]) (by kernel_rfl) (by simp) ?_
         refine AllReadyH.cons rfl (fun K hK=>?_) AllReadyH.nil
         refine cK rfl (wp_append_at _ _ _ 31 rfl (rb+1) 9 i9 (.string ⟨#[]⟩) 1 16 Tryz.underlying31 h9 PO zN PQ rfl (by decide) (.slice aC sr.cls.length jW) sr.cls.length (strs sr.cls) rfl (Zk.out.alloc _) ⟨w4.heap.size,0,none⟩ 1 1 [.string (bs t.text)] rfl rfl (eP _ _ _) (fun u hu=>by simp at hu;subst hu;rfl) (by unfold maxLen;omega) (by omega) (by simp;omega) ?_)
         intro v5 w5 hown5 hg5
         obtain⟨gv,jU,rfl,Nv,Ny,Nz,_⟩:=ax hown5 (by omega)
         have JD:(w4.alloc (.cells #[.string (bs t.text)] 9)).grownBy w5 xr.vC.ownBlock:=by rw [wW.out];exact hg5
         obtain⟨RJ,JE,JF,sI⟩:=wT.NB (c:=t.text) sH.out ((Only.refl (fun _=>False) _).alloc (.cells #[.string (bs t.text)] 9)) hown5 JD HR4.out.cl
         have h_:bY w5 rb S (i3:Int) xr:=(JF HR4.out.lt).trans HR4.out
         have e2:w5.cell? ⟨rb,2,none⟩=some (.slice aC sr.cls.length jW):=by rw [←wW.out];exact h_.c2
         have g2:=h_.fz 2
         have vU:Pb w5 w3.heap.size t.text t.at':=uB.out.only sI (fun e=>dU sH.out.cls 108 (by decide) _ e _ _ uB.out)
         refine hK.out _ _ vU (fun gI=>?_)
         clear hK
         try simp only [Act.put,zA,zB,zC]
         refine bQ (i:=11) (v:=Value.pointer (some ⟨rb,0,none⟩)) rfl ?_
         simp only [Act.put,zA,zB,zC]
         refine bQ (i:=12) (v:=Value.pointer (some ⟨rb,2,none⟩)) rfl ?_
         simp only [Act.put,zA,zB,zC]
         refine bQ (i:=13) (v:=Value.pointer (some ⟨rb,2,none⟩)) rfl ?_
         simp only [Act.put,zA,zB,zC]
         refine wpAnyH_ready (rs:=[14]) (by kernel_rfl) (by simp) ?_
         refine AllReadyH.cons rfl (fun K hK=>?_) AllReadyH.nil
         rw [if_pos (by rfl)]
         go_simp
         refine hK.out _ _ (vU.only (P:=(·=rb)) ((Only.refl (·=rb) w5).setCell (p:=⟨rb,2,none⟩) rfl _) (by omega)) (fun gJ=>?_)
         clear hK
         refine wpAnyH_done (by kernel_rfl) ?_ _
         clear gI gJ
         go_wp2_with fail
         go_meet
         case rel=>exact⟨_,.slice (some ⟨gv,0,none⟩) (sr.cls.length+1) jU,rfl,h_.set2 _,RJ,eD.out.trans (by rw [←Kl.out];exact JE),vU.only (P:=(·=rb)) ((Only.refl (·=rb) w5).setCell (p:=⟨rb,2,none⟩) rfl _) (by omega)⟩
        ·rw [if_pos (by rfl)]
         go_simp
         refine (lH (bs t.text) _ (by rw [bf];exact List.length_pos_iff.2 Jd.out) (by rw [bf];omega)).mono ?_
         rintro e w4 ⟨rfl,bI⟩
         have HR4:Hid (bY w4 rb S (i3:Int) xr):=Ij.out.only bI (fun h=>h)
         have sH:Hid (wT w4 rb xr sr sr.cls sr.au):=Vu.out.of bI
         have uB:Hid (Pb w4 w3.heap.size t.text t.at'):=NS.out.only bI (fun h=>h)
         have eD:Hid (Fr rb x.mb w w4):=iA.out.trans (bI.UR _ _)
         have Zk:Hid (w4.ownsRow (rb+1) 9 1 (.slice aC sr.cls.length jW) sr.cls.length (strs sr.cls)):=(by have:=sH.out.cls;rw [wW.out] at this;exact this)
         have hl4:=HR4.out.lt
         have d2b:w4.cell? ⟨rb,2,none⟩=some (.slice aC sr.cls.length jW):=(by rw [←wW.out];exact HR4.out.c2)
         have d2c:(w4.alloc (.cells #[.string (bs t.text)] 9)).cell? ⟨rb,2,none⟩=some (.slice aC sr.cls.length jW):=(by rw [←wW.out];exact (HR4.out.alloc _).c2)
         have RI:=bI.size
         simp only [World.drew,World.alloc,Array.size_push] at RI
         refine hK.out _ _ uB.out (fun nQ=>?_)
         clear hK
         refine wpAnyH_ready (rs:=[5,9]) (by kernel_rfl) (by simp) ?_
         refine AllReadyH.cons rfl (fun K hK=>?_) (AllReadyH.cons rfl (fun K hK=>?_) AllReadyH.nil)
         focus
          rw [if_pos (by rfl)]
          go_simp
          refine hK.out _ _ uB.out (fun Ko=>?_)
          clear hK
          refine wpAnyH_ready (rs:=[9]) (by kernel_rfl) (by simp) ?_
         rotate_left
         focus
          rw [if_pos (by rfl)]
          go_simp
          refine hK.out _ _ (uB.out.alloc _) (fun Ko=>?_)
          clear hK
          refine wpAnyH_ready (rs:=[5]) (by kernel_rfl) (by simp) ?_
         rotate_left
         all_goals
          refine AllReadyH.cons rfl (fun K hK=>?_) AllReadyH.nil
          rw [if_pos (by rfl)]
          go_simp
          refine hK.out _ _ (uB.out.alloc _) (fun Zl=>?_)
          clear hK
          refine wpAnyH_ready (rs:=[10]) (by kernel_rfl) (by simp) ?_
          refine AllReadyH.cons rfl (fun K hK=>?_) AllReadyH.nil
          refine cK rfl (wp_append_at _ _ _ 31 rfl (rb+1) 9 i9 (.string ⟨#[]⟩) 1 16 Tryz.underlying31 h9 PO zN PQ rfl (by decide) (.slice aC sr.cls.length jW) sr.cls.length (strs sr.cls) rfl (Zk.out.alloc _) ⟨w4.heap.size,0,none⟩ 1 1 [.string (bs t.text)] rfl rfl (eP _ _ _) (fun u hu=>by simp at hu;subst hu;rfl) (by unfold maxLen;omega) (by omega) (by simp;omega) ?_)
          intro v5 w5 hown5 hg5
          obtain⟨gv,jU,rfl,Nv,Ny,Nz,_⟩:=ax hown5 (by omega)
          have JD:(w4.alloc (.cells #[.string (bs t.text)] 9)).grownBy w5 xr.vC.ownBlock:=by rw [wW.out];exact hg5
          obtain⟨RJ,JE,JF,sI⟩:=wT.NB (c:=t.text) sH.out ((Only.refl (fun _=>False) _).alloc (.cells #[.string (bs t.text)] 9)) hown5 JD HR4.out.cl
          have h_:bY w5 rb S (i3:Int) xr:=(JF HR4.out.lt).trans HR4.out
          have e2:w5.cell? ⟨rb,2,none⟩=some (.slice aC sr.cls.length jW):=by rw [←wW.out];exact h_.c2
          have g2:=h_.fz 2
          have vU:Pb w5 w3.heap.size t.text t.at':=uB.out.only sI (fun e=>dU sH.out.cls 108 (by decide) _ e _ _ uB.out)
          refine hK.out _ _ vU (fun gI=>?_)
          clear hK
          try simp only [Act.put,zA,zB,zC]
          refine bQ (i:=11) (v:=Value.pointer (some ⟨rb,0,none⟩)) rfl ?_
          simp only [Act.put,zA,zB,zC]
          refine bQ (i:=12) (v:=Value.pointer (some ⟨rb,2,none⟩)) rfl ?_
          simp only [Act.put,zA,zB,zC]
          refine bQ (i:=13) (v:=Value.pointer (some ⟨rb,2,none⟩)) rfl ?_
          simp only [Act.put,zA,zB,zC]
          refine wpAnyH_ready (rs:=[14]) (by kernel_rfl) (by simp) ?_
          refine AllReadyH.cons rfl (fun K hK=>?_) AllReadyH.nil
          rw [if_pos (by rfl)]
          go_simp
          refine hK.out _ _ (vU.only (P:=(·=rb)) ((Only.refl (·=rb) w5).setCell (p:=⟨rb,2,none⟩) rfl _) (by omega)) (fun gJ=>?_)
          clear hK
          refine wpAnyH_done (by kernel_rfl) ?_ _
          clear gI gJ
          go_wp2_with fail
          go_meet
          case rel=>exact⟨_,.slice (some ⟨gv,0,none⟩) (sr.cls.length+1) jU,rfl,h_.set2 _,RJ,eD.out.trans (by rw [←Kl.out];exact JE),vU.only (P:=(·=rb)) ((Only.refl (·=rb) w5).setCell (p:=⟨rb,2,none⟩) rfl _) (by omega)⟩
       case rest=>
        obtain⟨W,v',hW,h_,BL,sI,vU⟩:=hcut
        obtain⟨y,hy⟩:∃y:Rd,y={ xr with vC:=v'}:=⟨_,rfl⟩
        rw [←hy] at h_ BL
        have hym:y.mb=xr.mb:=by rw [hy]
        have HYm:=zH hym
        have RL:=zH h_
        have P5:=zH BL
        have oG:=zH sI
        have Vv:=zH vU
        obtain⟨aT,Ab,vw⟩:=ah BL.vo
        have Io:=zH vw
        have htl:Hid (sr.au.length=sr.cls.length):=Km.out.JH
        have k5:W.cell? ⟨rb,5,none⟩=some (.slice aT sr.au.length Ab):=by rw [←vw];exact h_.c5
        have f5:=h_.fz 5
        have Zm:Hid (W.ownsRow (rb+1) 3 1 (.slice aT sr.au.length Ab) sr.au.length (ints sr.au)):=by rw [←vw];exact BL.vo
        have hlW:=h_.lt
        have abl:sr.au.length < 24:=by rw [htl.out];exact hcl
        rw [←hW]
        clear hy hym h_ BL sI vU vw hW
        go_wp2_with (at_builtin;refine wpList_append_own_at _ rfl _ _ 28 rfl (rb+1) 3 i0 (.int .i64 0) 1 8 Tryz.underlying28 hi hz0 hz1 hz2 rfl (by decide) _ _ _ rfl (Zm.out.alloc (.cells #[.int .i64 (sr.cls.length:Int)] 3)) ⟨W.heap.size,0,none⟩ 1 1 [.int .i64 (sr.cls.length:Int)] rfl rfl (eP _ _ _) (fun u hu=>by simp at hu;subst hu;rfl) (by unfold maxLen;omega) (by omega) (by simp;omega) ?_;intro v6 w6 hown6 kE _ _;have Vw:(W.alloc (.cells #[.int .i64 (sr.cls.length:Int)] 3)).grownBy w6 y.vT.ownBlock:=(by rw [Io.out];exact kE);obtain⟨gv,jU,rfl,_,_,_,_⟩:=ax hown6 (by omega);obtain⟨Vx,Vy,Vz,Nn⟩:=wT.Rc (c:=(sr.cls.length:Int)) P5.out ((Only.refl (fun _=>False) _).alloc (.cells #[.int .i64 (sr.cls.length:Int)] 3)) hown6 Vw RL.out.cl;have ui:bY w6 rb S (i3:Int) y:=(Vz RL.out.lt).trans RL.out;have e5:=ui.c5;have g5:=ui.fz 5;have VA:Pb w6 w3.heap.size t.text t.at':=Vv.out.only Nn (fun e=>dU P5.out.vo 108 (by decide) _ e _ _ Vv.out);have RN:=zH Vx;have VB:=zH Vy;have Ug:Hid (bY (w6.setCell ⟨rb,5,none⟩ (.slice (some ⟨gv,0,none⟩) (sr.au.length+1) jU)) rb S (i3:Int) { y with vT:=.slice (some ⟨gv,0,none⟩) (sr.au.length+1) jU}):=ui.vM _;have RO:Hid (Pb (w6.setCell ⟨rb,5,none⟩ (.slice (some ⟨gv,0,none⟩) (sr.au.length+1) jU)) w3.heap.size t.text t.at'):=VA.only (P:=(·=rb)) ((Only.refl (·=rb) w6).setCell (p:=⟨rb,5,none⟩) rfl _) (by omega);clear Vx Vy ui VA hown6 kE Vw Nn Vz)
        obtain⟨z,hz⟩:∃z:Rd,z={ y with vT:=.slice (some ⟨gv,0,none⟩) (sr.au.length+1) jU}:=⟨_,rfl⟩
        obtain⟨V,hV⟩:∃V,V=w6.setCell ⟨rb,5,none⟩ (.slice (some ⟨gv,0,none⟩) (sr.au.length+1) jU):=⟨_,rfl⟩
        rw [←hz,←hV] at RN Ug
        rw [←hV] at VB RO ⊢
        have hzm:z.mb=y.mb:=by rw [hz]
        have XY:Hid (z.mb=x.mb):=(by rw [hzm,HYm.out,Kl.out]:z.mb=x.mb)
        have m7:V.drew.cell? ⟨rb,7,none⟩=some (.map (some z.mb))∧Pb V.drew w3.heap.size t.text t.at':=⟨Ug.out.c7,RO.out⟩
        clear hz hV hzm e5 g5
        refine wp_region_held_drew (S:=fun w'=>w'.cell? ⟨rb,7,none⟩=some (.map (some z.mb))∧Pb w' w3.heap.size t.text t.at') (by kernel_rfl) m7 (fun hHeld=>?_)
        refine bQ (i:=0) (oi:=⟨some 48,_,_,_,_,_⟩) (v:=Value.pointer (some ⟨rb,0,none⟩)) rfl ?_
        simp only [Act.put,zA,zB,zC]
        refine bQ (i:=1) (oi:=⟨some 49,_,_,_,_,_⟩) (v:=Value.pointer (some ⟨rb,0,none⟩)) rfl ?_
        simp only [Act.put,zA,zB,zC]
        refine bQ (i:=2) (oi:=⟨some 50,_,_,_,_,_⟩) (v:=Value.pointer (some ⟨rb,7,none⟩)) rfl ?_
        simp only [Act.put,zA,zB,zC]
        refine tk (i:=3) (oi:=⟨some 51,_,_,_,_,_⟩) (v:=Value.map (some z.mb)) rfl (Or.inl ⟨by rfl,fun w hSw=>by obtain⟨q7,h2⟩:=hSw;have q0:=h2.c0;clear h2;first |(go_simp;done) | go_simp⟩) ?_
        simp only [Act.put,zA,zB,zC]
        refine bQ (i:=4) (oi:=⟨some 52,_,_,_,_,_⟩) (v:=Value.pointer (some ⟨w3.heap.size,0,none⟩)) rfl ?_
        simp only [Act.put,zA,zB,zC]
        refine tk (i:=5) (oi:=⟨some 53,_,_,_,_,_⟩) (v:=Value.string (bs t.text)) rfl (Or.inl ⟨by rfl,fun w hSw=>by obtain⟨q7,h2⟩:=hSw;have q0:=h2.c0;clear h2;first |(go_simp;done) | go_simp⟩) ?_
        simp only [Act.put,zA,zB,zC]
        refine bQ (i:=6) (oi:=⟨some 54,_,_,_,_,_⟩) (v:=Value.int .i64 (sr.cls.length:Int)) rfl ?_
        simp only [Act.put,zA,zB,zC]
        obtain⟨BB,Zn⟩:∃BB:Int,BB=2 ^ sr.cls.length:=⟨_,rfl⟩
        refine tk (i:=7) (oi:=⟨some 55,_,_,_,_,_⟩) (v:=Value.int .u32 BB) rfl (Or.inl ⟨by rfl,fun w hSw=>by rw [Zn];refine RG (t:=.tmp 54) (n:=sr.cls.length) rfl (by simp [Act.eval]) (by omega) w⟩) ?_
        simp only [Act.put,zA,zB,zC]
        refine wpAnyH_ready (rs:=[8]) (by kernel_rfl) (by simp) ?_
        obtain⟨D,hown,Q_,hD⟩:=RN.out.mp
        have hbr:=wV sr.cls.length (Nat.le_of_lt hcl)
        rw [←Zn] at hbr
        have NT:t.text.length≤4096:=by omega
        have VC:z.mb≠rb:=by rw [XY.out];omega
        have hzp:¬ w3.heap.size=z.mb:=by rw [XY.out];omega
        have Zo:sr.env.length < maxLen:=by unfold maxLen;omega
        have hval:=plainElem_int (H:=Unit) Tryz.underlying32 (wf_u32 hbr)
        refine Gj (o:=?oo) ?h1 ?h2 ?h3 (.tmp 51) (.tmp 53) (.tmp 55) 80 ?h4 9 32 ug Tryz.underlying80 (plainElem Tryz.prog 32) z.mb sr.env.length D ?h5 hown Zo (.string (bs t.text)) (.int .u32 BB) (.string t.text) ?h6 ?h7 (Ja t.text NT) (.lit (.int .u32 BB)) [] hval ?h8
        case h1=>exact (Option.some_get (by kernel_rfl)).symm
        case h2=>kernel_rfl
        case h3=>kernel_rfl
        case h4=>kernel_rfl
        case h5=>simp [Act.eval]
        case h6=>simp [Act.eval]
        case h7=>simp [Act.eval]
        case h8=>
         intro w7 jO J6
         rw [Zn] at jO
         have VD:Only (·=z.mb) V w7:=⟨J6.os,J6.tape,J6.output,J6.size,fun g hg hn=>J6.block g hg (fun e=>hn (by injection e))⟩
         refine⟨⟨(Ug.out.only VD (fun e=>VC e.symm)).c7,RO.out.only VD hzp⟩,?_⟩
         refine wpAnyH_done (by kernel_rfl) ?_ _
         clear hHeld
         go_wp2_with fail
         go_roundg bH.length
         case measure=>simp
         case rel=>
          have hSt:=wT.addN RN.out VD (Mp.put (w:=V) Q_ hD jO YV.out) hcl htl.out
          refine⟨bH,z,Rl.addClass sr t.text,rfl,XY.out,⟨i3,Ug.out.only VD (fun e=>VC e.symm),Hs3.out⟩,hSt,(oG.out.trans (by rw [←Kl.out,←HYm.out];exact VB.out)).trans (by rw [←XY.out];exact VD.UQ),by unfold Rl.addClass;simp;omega,HE.out⟩
    ·have hq:decide (0 < Rl.jR t.text)=false:=by simpa [ky] using hnm
     rw [if_neg hnm] at aJ
     have HE:=zH aJ
     clear hb hnm aJ
     go_wp2_with (first |(go_at_call 52;refine (bB rb S xr t bH _ iT.out hS HB.out).mono ?_;rintro e w1 ⟨rfl,az,hs1,he1,ho1⟩;have HI1:Hid (In w1 rb S xr (t::bH)):=⟨_,az,hs1,by omega⟩;clear az hs1) |(go_at_call 85;refine (bN t.text _ _ (by omega)).mono ?_;rintro e w2 ⟨rfl,ho2⟩;have HI2:Hid (In w2 rb S xr (t::bH)):=HI1.out.only ho2 (fun h=>h);have aK:Hid (Only (·=rb) wr w2):=ho1.trans (ho2.mono (fun _ h=>h.elim))))
     go_end0
     rw [HE.out]
     exact⟨rfl,xr,Kl.out,HI2.out,Km.out.only aK.out,HOr.out.trans (aK.out.fr iT.out.cl _)⟩
def Rf (v:Value):Option (DataW Unit × List MemPlace):=
 match v with
 | .func (.func n) ⟨[]⟩ ⟨[]⟩=>some (.lit (.int .i64 n),[])
 | .nilFunc=>some (.lit (.int .i64 (-1)),[])
 | _=>none
theorem RP {v:Value} {n:Nat} {ps:List MemPlace} (h:Rf v=some (.lit (.int .i64 (n:Int)),ps)):v=.func (.func n) #[] #[]:=by
 unfold Rf at h
 split at h
 ·simp only [Option.some.injEq,Prod.mk.injEq] at h
  have h2:=(Lit.int.inj (DataW.lit.inj h.1)).2
  have:(_:Nat)=n:=Int.ofNat.inj h2
  rw [this]
 ·simp only [Option.some.injEq,Prod.mk.injEq] at h
  have h2:=(Lit.int.inj (DataW.lit.inj h.1)).2
  omega
 ·cases h
theorem RQ (w:World):(zeroValue 110).run Tryz.prog w=.ok .nilFunc w:=by kernel_rfl
def gN (n:Nat):DataW Unit:=.lit (.int .i64 (n:Int))
def kJ:DataW Unit:=((((((((DataW.map []).put (.string Rl.j6) (gN 64)).put (.string Rl.II) (gN 65)).put (.string Rl.j_) (gN 66)).put (.string Rl.fE) (gN 67)).put (.string Rl.tQ) (gN 68)).put (.string Rl.BS) (gN 69)).put (.string Rl.tT) (gN 70))
def Kn (w:World) (kb:Nat):Prop:=w.ownsMap Tryz.prog 9 Rf kb 7 kJ
theorem Kn.look {w:World} {kb:Nat} (h:Kn w kb) {s:Rl.Str} (hs:s.length≤4096):∃v ps,(Instr.lookup 105 (.map (some kb)) (.string (bs s)) true).run Tryz.prog w=.ok (.tuple #[v,.bool (Maps.has kJ (.string s))]) w∧Rf v=some (kJ.atKey (.string s) (.lit (.int .i64 (-1))),ps):=
 World.ownsMap.look_ok h ug Tryz.underlying105 (RQ w) (zd:=.lit (.int .i64 (-1))) (zp:=[]) rfl (Ja s hs)
theorem Gl (w:World):Calls Tryz.prog 51 #[] w fun e w'=>e=.returned (.map (some w.heap.size))∧Kn w' w.heap.size∧Only (fun _=>False) w w':=by
 have hmm:=@run_makeMap Tryz.prog
 go_enter Tryz.func51,Tryz.ntmps51
 have key:∀s:Rl.Str,s.length≤4096→keyOf Tryz.prog 9 (.string (bs s))=some (.string s):=Ja
 have HK:=zH key
 clear key
 have m0:Hid ((w.alloc (Obj.map #[] 0)).ownsMap Tryz.prog 9 Rf w.heap.size 0 (DataW.map []:DataW Unit)):=World.ownsMap_made w Tryz.prog 9 Rf
 go_wp2_with (first |(refine wpList_insert_own _ rfl _ _ _ 105 rfl 9 110 ug Tryz.underlying105 Rf w.heap.size 0 _ rfl m0.out (by unfold maxLen;omega) _ _ _ rfl rfl (HK.out Rl.j6 (by decide)) (gN 64) [] rfl ?_;intro w1 m1 g1) |(refine wpList_insert_own _ rfl _ _ _ 105 rfl 9 110 ug Tryz.underlying105 Rf w.heap.size 1 _ rfl m1 (by unfold maxLen;omega) _ _ _ rfl rfl (HK.out Rl.II (by decide)) (gN 65) [] rfl ?_;intro w2 m2 g2) |(refine wpList_insert_own _ rfl _ _ _ 105 rfl 9 110 ug Tryz.underlying105 Rf w.heap.size 2 _ rfl m2 (by unfold maxLen;omega) _ _ _ rfl rfl (HK.out Rl.j_ (by decide)) (gN 66) [] rfl ?_;intro w3 m3 g3) |(refine wpList_insert_own _ rfl _ _ _ 105 rfl 9 110 ug Tryz.underlying105 Rf w.heap.size 3 _ rfl m3 (by unfold maxLen;omega) _ _ _ rfl rfl (HK.out Rl.fE (by decide)) (gN 67) [] rfl ?_;intro w4 m4 g4) |(refine wpList_insert_own _ rfl _ _ _ 105 rfl 9 110 ug Tryz.underlying105 Rf w.heap.size 4 _ rfl m4 (by unfold maxLen;omega) _ _ _ rfl rfl (HK.out Rl.tQ (by decide)) (gN 68) [] rfl ?_;intro w5 m5 g5) |(refine wpList_insert_own _ rfl _ _ _ 105 rfl 9 110 ug Tryz.underlying105 Rf w.heap.size 5 _ rfl m5 (by unfold maxLen;omega) _ _ _ rfl rfl (HK.out Rl.BS (by decide)) (gN 69) [] rfl ?_;intro w6 m6 g6) |(refine wpList_insert_own _ rfl _ _ _ 105 rfl 9 110 ug Tryz.underlying105 Rf w.heap.size 6 _ rfl m6 (by unfold maxLen;omega) _ _ _ rfl rfl (HK.out Rl.tT (by decide)) (gN 70) [] rfl ?_;intro w7 m7 g7))
 go_ret
 have hN:∀ {a b:World},a.grownBy b (some w.heap.size)→Only (·=w.heap.size) a b:=fun hg=>⟨hg.os,hg.tape,hg.output,hg.size,fun g hgl hn=>hg.block g hgl (fun e=>hn (by injection e))⟩
 have hO:Only (·=w.heap.size) (w.alloc (Obj.map #[] 0)) w7:=(hN g1).trans ((hN g2).trans ((hN g3).trans ((hN g4).trans ((hN g5).trans ((hN g6).trans (hN g7))))))
 refine⟨rfl,m7,⟨hO.os,hO.tape,hO.output,Nat.le_trans (by simp) hO.size,fun g hg _=>(hO.block g (by simp;omega) (by omega)).trans (Below.heap_alloc _ _ _ hg)⟩⟩
theorem CP (p q:Addr) (w:World):
  CallsD Tryz.prog 30 #[.pointer (some p),.pointer (some q)] .returning w fun e u' w'=>e=.returned (.tuple #[])∧u'=.returning∧w'=w:=by
 refine callsD_of_wpS Tryz.func30 rfl fun c₀ cs hu=>?_
 apply wpS_seq
 apply wpS_region
 simp [wpOpsS,go_sem,recoverD,hu,Tryz.ntmps30,Exit.thenS]
 refine wpS_of_wp ?_
 go_wp2
 cases c₀
 simp_all [bodyPostS,results,Tryz.results30]
theorem yg (ob fb:Nat) (c i:Int) (v0 v1 v2 v3 v4 u0 u1:Value) (older:List PanicEntry) (w:World) (hO:w.heap[ob]?=some (.cells #[v0,v1,v2,v3,v4] 35 (0,0))) (hF:w.heap[fb]?=some (.cells #[u0,u1] 49 (0,0))) (hne:ob≠fb):
  CallsD Tryz.prog 30 #[.pointer (some ⟨ob,0,none⟩),.pointer (some ⟨fb,0,none⟩)] (.panicking ({ v:=.iface 49 (.agg #[.int .i64 c,.int .i64 i]),recovered:=false}::older)) w fun e u' w'=>
   e=.returned (.tuple #[])∧u'=.panicking ({ v:=.iface 49 (.agg #[.int .i64 c,.int .i64 i]),recovered:=true}::older)∧w'.heap[ob]?=some (.cells #[.slice none 0 0,.int .u32 0,.int .u32 0,.slice none 0 0,.slice none 0 0] 35 (0,0))∧w'.heap[fb]?=some (.cells #[.int .i64 c,.int .i64 i] 49 (0,0))∧Only (fun b=>b=ob∨b=fb) w w':=by
 have a0:w.cell? ⟨ob,0,none⟩=some v0:=(cell_of_row _ _ _ _ _ _ hO).trans rfl
 have a1:w.cell? ⟨ob,1,none⟩=some v1:=(cell_of_row _ _ _ _ _ _ hO).trans rfl
 have a2:w.cell? ⟨ob,2,none⟩=some v2:=(cell_of_row _ _ _ _ _ _ hO).trans rfl
 have a3:w.cell? ⟨ob,3,none⟩=some v3:=(cell_of_row _ _ _ _ _ _ hO).trans rfl
 have a4:w.cell? ⟨ob,4,none⟩=some v4:=(cell_of_row _ _ _ _ _ _ hO).trans rfl
 have b0:w.cell? ⟨fb,0,none⟩=some u0:=(cell_of_row _ _ _ _ _ _ hF).trans rfl
 have b1:w.cell? ⟨fb,1,none⟩=some u1:=(cell_of_row _ _ _ _ _ _ hF).trans rfl
 have fo:∀k,w.frozen? ⟨ob,k,none⟩=false:=fun k=>by simp [World.frozen?,hO]
 have ff:∀k,w.frozen? ⟨fb,k,none⟩=false:=fun k=>by simp [World.frozen?,hF]
 have o0:=fo 0
 have o1:=fo 1
 have o2:=fo 2
 have o3:=fo 3
 have o4:=fo 4
 have g0:=ff 0
 have g1:=ff 1
 have hne':fb≠ob:=fun e=>hne e.symm
 have HO:=zH hO
 have HF:=zH hF
 clear hO hF fo ff
 refine callsD_of_wpS Tryz.func30 rfl fun c₀ cs hu=>?_
 apply wpS_seq
 apply wpS_region
 simp [wpOpsS,go_sem,recoverD,hu,Tryz.ntmps30,Exit.thenS]
 refine wpS_of_wp ?_
 have hta:∀w,(Instr.typeAssert (.iface 49 (.agg #[.int .i64 c,.int .i64 i])) 20 49 false).run Tryz.prog w=.ok (.agg #[.int .i64 c,.int .i64 i]) w:=fun w=>by kernel_rfl
 go_wp2
 go_region
 all_goals
  have Ck:(((((w.setCell ⟨ob,0,none⟩ (Value.slice none 0 0)).setCell ⟨ob,1,none⟩ (Value.int .u32 0)).setCell ⟨ob,2,none⟩ (Value.int .u32 0)).setCell ⟨ob,3,none⟩ (Value.slice none 0 0)).setCell ⟨ob,4,none⟩ (Value.slice none 0 0)).heap[ob]?=some (.cells #[.slice none 0 0,.int .u32 0,.int .u32 0,.slice none 0 0,.slice none 0 0] 35 (0,0)):=aa (aa (aa (aa (aa HO.out _) _) _) _) _
  have hon:Only (fun b=>b=ob∨b=fb) w (((((w.setCell ⟨ob,0,none⟩ (Value.slice none 0 0)).setCell ⟨ob,1,none⟩ (Value.int .u32 0)).setCell ⟨ob,2,none⟩ (Value.int .u32 0)).setCell ⟨ob,3,none⟩ (Value.slice none 0 0)).setCell ⟨ob,4,none⟩ (Value.slice none 0 0)):=(((((Only.refl (fun b=>b=ob∨b=fb) w).setCell (p:=⟨ob,0,none⟩) (Or.inl rfl) _).setCell (p:=⟨ob,1,none⟩) (Or.inl rfl) _).setCell (p:=⟨ob,2,none⟩) (Or.inl rfl) _).setCell (p:=⟨ob,3,none⟩) (Or.inl rfl) _).setCell (p:=⟨ob,4,none⟩) (Or.inl rfl) _
  have Ru:(((((w.setCell ⟨ob,0,none⟩ (Value.slice none 0 0)).setCell ⟨ob,1,none⟩ (Value.int .u32 0)).setCell ⟨ob,2,none⟩ (Value.int .u32 0)).setCell ⟨ob,3,none⟩ (Value.slice none 0 0)).setCell ⟨ob,4,none⟩ (Value.slice none 0 0)).heap[fb]?=some (.cells #[u0,u1] 49 (0,0)):=(Below.heap_setCell _ _ _ _ hne').trans ((Below.heap_setCell _ _ _ _ hne').trans ((Below.heap_setCell _ _ _ _ hne').trans ((Below.heap_setCell _ _ _ _ hne').trans ((Below.heap_setCell _ _ _ _ hne').trans HF.out))))
  generalize (((((w.setCell ⟨ob,0,none⟩ (Value.slice none 0 0)).setCell ⟨ob,1,none⟩ (Value.int .u32 0)).setCell ⟨ob,2,none⟩ (Value.int .u32 0)).setCell ⟨ob,3,none⟩ (Value.slice none 0 0)).setCell ⟨ob,4,none⟩ (Value.slice none 0 0))=W5 at Ck Ru hon ⊢
  refine⟨rfl,_,rfl,.tuple #[],by simp [results,Tryz.results30],rfl,rfl,?_,?_,?_⟩
  ·exact (Below.heap_setCell _ _ _ _ hne).trans ((Below.heap_setCell _ _ _ _ hne).trans Ck)
  ·exact aa (aa Ru _) _
  ·exact ((hon.setCell (p:=⟨fb,0,none⟩) (Or.inr rfl) _).setCell (p:=⟨fb,1,none⟩) (Or.inr rfl) _).drew
end Go.Proofs.YtdlabakleldgaaaGreatDoor
