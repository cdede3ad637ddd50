/- Sts2 -/
import Derived.Test.YtdlabakleldgaaaGreatDoorZ00
import Derived.Test.YtdlabakleldgaaaGreatDoorZ16
set_option linter.unusedVariables false
set_option linter.unusedSimpArgs false
set_option maxRecDepth 100000
set_option maxHeartbeats 8000000
namespace Go.Proofs.YtdlabakleldgaaaGreatDoor
open Go.RowKit Go.Maps
theorem gM (g cl:Nat) (p:Au.Pl) (l:List Au.Nd) (fs:Nat) (vL:Value) (w:World) (hP:mV w g cl p fs vL (jV l)) (hL:Lw w (fun b=>b < w.heap.size) vL (l.map (·.last))) (hp2:p.sets.length≤200) (hcl:cl≤24) (hl:l.length≤24) (UU:∀x∈l.map (·.last),x < 2 ^ 256) (hby:∀c,Au.by' p c < 2 ^ 256):
  Calls Tryz.prog 58 #[.pointer (some ⟨g,0,none⟩)] w (Rm w cl (Au.states p l fs cl 301 0 [0] [] [])):=by
 have hlt:=hP.lt
 have hmm:=@run_makeMap Tryz.prog
 obtain⟨i7,h7,XE,XT,h72⟩:=info_parts Ew
 have hMe:Hid ((((w.alloc (.cells #[.slice none 0 0,.slice none 0 0] 71)).alloc (.cells #[.slice none 0 0,.slice none 0 0] 71)).alloc (.map #[] 0)).ownsMap Tryz.prog 124 (plainElem Tryz.prog 3) (w.heap.size+1+1) 0 (DataW.map []:DataW Unit)):=by
  have h:=World.ownsMap_made (H:=Unit) ((w.alloc (.cells #[.slice none 0 0,.slice none 0 0] 71)).alloc (.cells #[.slice none 0 0,.slice none 0 0] 71)) Tryz.prog 124 (plainElem Tryz.prog 3)
  have e:((w.alloc (.cells #[.slice none 0 0,.slice none 0 0] 71)).alloc (.cells #[.slice none 0 0,.slice none 0 0] 71)).heap.size=w.heap.size+1+1:=by simp
  rw [e] at h
  exact h
 have HP:=zH hP
 have HL:=zH hL
 clear hP hL
 go_enter Tryz.func58,Tryz.ntmps58
 go_wp2_with (refine wpList_insert_own _ rfl _ _ _ 147 rfl 124 3 tY Tryz.underlying147 _ (w.heap.size+1+1) 0 (DataW.map []:DataW Unit) rfl hMe.out (by unfold maxLen;omega) _ _ _ rfl rfl (NK) _ [] (plainElem_int Tryz.underlying3 (wf_i64 (a:=0) (by omega))) ?_;intro w1 hM1 hg1)
 have Cv:Only (·=w.heap.size+1+1) (((w.alloc (.cells #[.slice none 0 0,.slice none 0 0] 71)).alloc (.cells #[.slice none 0 0,.slice none 0 0] 71)).alloc (.map #[] 0)) w1:=(Only.refl (·=w.heap.size+1+1) _).grown hg1 (fun k h=>by injection h with h;exact h.symm)
 have hs1:w.heap.size+1+1+1≤w1.heap.size:=by have:=Cv.size;simp at this;omega
 have XU:Only (fun h=>w.heap.size≤h) w w1:=((((Only.refl _ _).alloc _).alloc _).alloc _).trans (Cv.mono (fun _ h=>by omega))
 have iA:Hid (mI w (w1.alloc (.cells #[.int .u64 0,.int .u64 0,.int .u64 0,.int .u64 0] 124)) g cl p fs vL (jV l) (l.map (·.last)) [0] (.slice (some ⟨w1.heap.size,0,none⟩) 1 1) [] [] (.slice none 0 0) (.slice none 0 0)):=by
  refine⟨HP.out.only (XU.alloc _) (by omega),hlt,HL.out.only (XU.alloc _) (fun b hb=>by omega),⟨_,hM1.alloc _,F6⟩,⟨rfl,Or.inr ⟨w1.heap.size,1,#[.int .u64 0,.int .u64 0,.int .u64 0,.int .u64 0],rfl,hs1,heap_alloc_new _ _,Nat.le_refl _,by unfold maxLen;omega,rfl,by simp [ni,sC,bL]⟩⟩,?_,?_,World.ownsRow_nil _ _ _ _,World.ownsRow_nil _ _ _ _,(fun r hr=>by cases hr),XU.alloc _⟩
  ·refine (Below.heap_alloc _ _ _ (by omega)).trans ((Cv.block _ (by simp;omega) (by omega)).trans ?_)
   exact (Below.heap_alloc _ _ _ (by simp;omega)).trans ((Below.heap_alloc _ _ _ (by simp)).trans (heap_alloc_new _ _))
  ·refine (Below.heap_alloc _ _ _ (by omega)).trans ((Cv.block _ (by simp) (by omega)).trans ?_)
   exact (Below.heap_alloc _ _ _ (by simp)).trans (heap_alloc2_new _ _ _)
 clear hM1 hg1 Cv XU HP HL
 obtain⟨i3,h3,h30,h31,h32⟩:=info_parts kH
 obtain⟨i4,h4,h40,h41,ME⟩:=info_parts Rn
 obtain⟨i5,h5,h50,PU,MF⟩:=info_parts Ro
 have YT:=zH UU
 have HBy:=zH hby
 clear UU hby hMe
 go_loopg [6,7] 301 (fun gh v6 v7 wr=>∃(n:Nat) (found:List Nat) (fb F8:Nat) (rows:List (Nat × List Nat)) (o:List Nat) (vN vO:Value) (W:World),W=wr∧gh=301 - n∧0 < found.length∧n≤found.length∧found.length≤300∧v6=.slice (some ⟨fb,0,none⟩) found.length F8∧v7=.int .i64 (n:Int)∧rows.length=n∧o.length=n∧(∀x∈found,x < 2 ^ 256)∧Au.states p l fs cl (301 - n) n found (rows.map (·.2)) o=Au.states p l fs cl 301 0 [0] [] []∧mI w W g cl p fs vL (jV l) (l.map (·.last)) found (.slice (some ⟨fb,0,none⟩) found.length F8) rows o vN vO)
 case atStart=>exact⟨0,[0],w1.heap.size,1,[],[],_,_,_,rfl,rfl,by simp,by simp,by simp,rfl,rfl,rfl,rfl,by intro x hx;simp at hx;subst hx;exact Nat.two_pow_pos _,rfl,iA.out⟩
 case round=>
  obtain⟨n,found,fb,F8,rows,o,vN,vO,W,hW,rfl,hn0,hn1,hn2,rfl,rfl,hrl,hol,hsm,hst,hos⟩:=hrel
  subst hW
  have HST:=zH hst
  have zW:=zH hos
  have XV:=zH hsm
  have NL:Hid (rows.length=n∧o.length=n):=⟨hrl,hol⟩
  clear hst hsm hrl hol iA
  have hgl:=hos.gl
  have hgW:g < W.heap.size:=hos.pl.lt
  obtain⟨fb',PV,U8,Ru,hfl,hfc,qU⟩:=ax hos.fd hn0
  injection U8 with e1 e2 e3
  injection e1 with e1
  injection e1 with e1
  subst e1 e3
  have HFC:=zH qU
  clear qU e2
  have c0:=hos.pl.c0
  clear hos
  obtain⟨fl,JY⟩:∃fl,fl=found.length:=⟨_,rfl⟩
  have U9:=zH JY
  rw [←JY] at hn0 hn1 hn2 hfc ⊢
  clear JY
  by_cases mH:n < fl
  ·have t1:(n:Int) <(fl:Int):=by omega
   obtain⟨s,hs⟩:∃s,found[n]?=some s:=⟨_,List.getElem?_eq_getElem (by rw [←U9.out];exact mH)⟩
   have HS:=zH hs
   have hss:s < 2 ^ 256:=XV.out s (List.mem_of_getElem? hs)
   have Uf:=zH hss
   have hkp:∀j,j < 4→W.cell? ⟨fb,n*4+j,none⟩=some (.int .u64 (wd s j:Int)):=fun j hj=>by
    rw [HFC.out (n*4+j) (by rw [←U9.out];omega)]
    exact uu found n j s hs hj
   have b0:W.cell? ⟨fb,n*4,none⟩=some (.int .u64 (wd s 0:Int)):=hkp 0 (by decide)
   have b1:W.cell? ⟨fb,n*4+1,none⟩=some (.int .u64 (wd s 1:Int)):=hkp 1 (by decide)
   have b2:W.cell? ⟨fb,n*4+2,none⟩=some (.int .u64 (wd s 2:Int)):=hkp 2 (by decide)
   have b3:W.cell? ⟨fb,n*4+3,none⟩=some (.int .u64 (wd s 3:Int)):=hkp 3 (by decide)
   clear hkp hs hss
   go_wp2_with (first |(go_at_call 80;refine (Js g cl p.sets.length _ _ fs vL (jV l) s _ zW.out.pl hp2).mono ?_;rintro e w2 ⟨rfl,ho2⟩;have jy:Hid (mI w w2 g cl p fs vL (jV l) (l.map (·.last)) found (.slice (some ⟨fb,0,none⟩) found.length F8) rows o vN vO):=zW.out.gK ho2;have aK:=zH ho2;have d0:w2.cell? ⟨g,0,none⟩=some (.int .i64 (cl:Int)):=jy.out.pl.c0;have aa6:g < w2.heap.size:=jy.out.pl.lt;clear ho2;unfold sV sC) |(at_make;refine wpList_make_full _ rfl _ _ 28 rfl (w.heap.size+1+1+1) 3 i3 (.int .i64 0) 1 Tryz.underlying28 h3 h30 h31 .i64 .i64 _ _ cl rfl rfl rfl rfl (by rw [h32];omega) (by unfold maxLen;omega) (by have:=jy.out.on.size;have:=hfl;have:=aK.out.size;simp;omega) ?_;intro w4 rU hg4;have U_:=zH rU;have eD:Hid (Only (fun _=>False) (w2.alloc (.cells #[.int .u64 (wd (gH p.next fs s p.sets.length) 0:Int),.int .u64 (wd (gH p.next fs s p.sets.length) 1:Int),.int .u64 (wd (gH p.next fs s p.sets.length) 2:Int),.int .u64 (wd (gH p.next fs s p.sets.length) 3:Int)] 124)) w4):=(Only.refl _ _).grown hg4 (fun k h=>by cases h);have d4:w4.cell? ⟨g,0,none⟩=some (.int .i64 (cl:Int)):=((jy.out.gK ((Only.refl _ _).alloc _)).gK eD.out).pl.c0;clear rU hg4))
   have ewb:(w2.alloc (.cells #[.int .u64 (wd (gH p.next fs s p.sets.length) 0:Int),.int .u64 (wd (gH p.next fs s p.sets.length) 1:Int),.int .u64 (wd (gH p.next fs s p.sets.length) 2:Int),.int .u64 (wd (gH p.next fs s p.sets.length) 3:Int)] 124)).heap.size=w2.heap.size+1:=by simp
   have rU:=U_.out
   rw [ewb] at rU
   obtain⟨Rx,hwb⟩:=JM rU
   have Va:Hid (mI w w4 g cl p fs vL (jV l) (l.map (·.last)) found (.slice (some ⟨fb,0,none⟩) found.length F8) rows o vN vO):=(jy.out.gK ((Only.refl _ _).alloc _)).gK eD.out
   have Zb:Hid (Sb w4 w2.heap.size (gH p.next fs s p.sets.length)):=Sb.only (w:=w2.alloc (.cells #[.int .u64 (wd (gH p.next fs s p.sets.length) 0:Int),.int .u64 (wd (gH p.next fs s p.sets.length) 1:Int),.int .u64 (wd (gH p.next fs s p.sets.length) 2:Int),.int .u64 (wd (gH p.next fs s p.sets.length) 3:Int)] 124)) (heap_alloc_new _ _) eD.out (fun h=>h)
   have HWB:=zH hwb
   have HNR:Hid (∀r∈rows,r.1≠w2.heap.size+1):=fun r hr e=>by
    have:=(Array.getElem?_eq_some_iff.1 (jy.out.ro r hr).2.1).1
    omega
   have aa7:fb < w2.heap.size:=Nat.lt_of_lt_of_le hfl aK.out.size
   clear rU U_ ewb hwb d0 c0 b0 b1 b2 b3 aK
   obtain⟨m,hm⟩:∃m,m=gH p.next fs s p.sets.length:=⟨_,rfl⟩
   have HM:=zH hm
   rw [←hm] at Zb
   clear hm
   go_loopg [6,40] cl (fun gh v6 v40 wr=>∃(k:Nat) (aj:List Nat) (f_ dE:Nat) (L:List Nat) (W1:World),W1=wr∧gh=cl - k∧k≤cl∧aj.length≤300∧v6=.slice (some ⟨f_,0,none⟩) aj.length dE∧v40=.int .i64 (k:Int)∧L.length=k∧f_≠w2.heap.size∧found.length≤aj.length∧aj[n]?=some s∧(∀x∈aj,x < 2 ^ 256)∧Au.ways p m ((List.range cl).drop k) aj L=Au.ways p m (List.range cl) found []∧W1.heap[w2.heap.size+1]?=some (.cells (Ez L cl) 3 (0,0))∧Sb W1 w2.heap.size m∧mI w W1 g cl p fs vL (jV l) (l.map (·.last)) aj (.slice (some ⟨f_,0,none⟩) aj.length dE) rows o vN vO)
   case atStart=>exact⟨0,found,fb,F8,[],_,rfl,rfl,Nat.zero_le _,by rw [←U9.out];exact hn2,by rw [U9.out],rfl,rfl,by omega,Nat.le_refl _,HS.out,XV.out,rfl,HWB.out,Zb.out,Va.out⟩
   case round=>
    obtain⟨k,aj,f_,dE,L,W1,hW1,rfl,hk,JZ,rfl,rfl,hLk,J2,hff,hfn,Vb,PW,Vd,Ve,Ry⟩:=hrel
    subst hW1
    have HWY:=zH PW
    have pM:=zH Ry
    have J3:=zH Vd
    have Cw:=zH Ve
    have F9:=zH Vb
    have BK:Hid (aj[n]?=some s∧found.length≤aj.length):=⟨hfn,hff⟩
    have EC:=zH hLk
    have aa8:g < W1.heap.size:=Ry.pl.lt
    clear PW Ry Vd Ve Vb hfn hff hLk HWB Zb Va d4
    by_cases vP:k < cl
    ·have t5:(k:Int) <(cl:Int):=by omega
     have hB:Jl cl p k=Au.by' p k:=if_pos vP
     have hbc:∀j,j < 4→W1.cell? ⟨g,2+k*4+j,none⟩=some (.int .u64 (wd (Au.by' p k) j:Int)):=fun j hj=>by
      rw [←hB,Nat.mul_comm]
      exact (ae pM.out.pl).trans (IL _ _ _ _ _ _ _ k (by omega) j hj)
     have y0:W1.cell? ⟨g,2+k*4,none⟩=some (.int .u64 (wd (Au.by' p k) 0:Int)):=hbc 0 (by decide)
     have y1:W1.cell? ⟨g,2+k*4+1,none⟩=some (.int .u64 (wd (Au.by' p k) 1:Int)):=hbc 1 (by decide)
     have y2:W1.cell? ⟨g,2+k*4+2,none⟩=some (.int .u64 (wd (Au.by' p k) 2:Int)):=hbc 2 (by decide)
     have y3:W1.cell? ⟨g,2+k*4+3,none⟩=some (.int .u64 (wd (Au.by' p k) 3:Int)):=hbc 3 (by decide)
     have x0:=Cw.out.c 0 (by decide)
     have x1:=Cw.out.c 1 (by decide)
     have x2:=Cw.out.c 2 (by decide)
     have x3:=Cw.out.c 3 (by decide)
     have aa9:(k:Int) < 24:=by omega
     have hmw:w2.heap.size < W1.heap.size:=Cw.out.lt
     clear hB hbc
     go_wp2_with fail
     go_cut [11,40] from 40 to 75 (fun v v40 wq=>∃(sb:Nat) (W2:World),W2=wq∧v=.pointer (some ⟨sb,0,none⟩)∧v40=.int .i64 (k:Int)∧W1.heap.size≤sb∧Sb W2 sb (m &&& Au.by' p k)∧Only (fun _=>False) W1 W2)
     case first=>
      go_region_with (first |(go_at_call 81;refine (oM m (Au.by' p k) _).mono ?_;rintro e w5 ⟨rfl,df⟩;have MG:w5.heap[W1.heap.size]?=some (.cells #[.int .u64 0,.int .u64 0,.int .u64 0,.int .u64 0] 124 (0,0)):=(df.block W1.heap.size (by simp) (fun h=>h)).trans (heap_alloc_new W1 (.cells #[.int .u64 0,.int .u64 0,.int .u64 0,.int .u64 0] 124));have z0:w5.cell? ⟨W1.heap.size,0,none⟩=some (.int .u64 0):=ae MG;have z1:w5.cell? ⟨W1.heap.size,1,none⟩=some (.int .u64 0):=ae MG;have z2:w5.cell? ⟨W1.heap.size,2,none⟩=some (.int .u64 0):=ae MG;have z3:w5.cell? ⟨W1.heap.size,3,none⟩=some (.int .u64 0):=ae MG;have q0:=ak MG 0;have q1:=ak MG 1;have q2:=ak MG 2;have q3:=ak MG 3;have Vf:=zH MG;have FY:Hid (Only (fun _=>False) W1 w5):=(((Only.refl _ _).alloc _).drew).trans df;clear MG df;unfold sV sC) |(go_at_call 81;refine (oM m (Au.by' p k) _).mono ?_;rintro e w5 ⟨rfl,df⟩;have Vg:Hid (Only (fun _=>False) W1 w5):=((Only.refl _ _).drew).trans df;clear df;unfold sV sC))
      all_goals
       go_wp2_with fail
       go_meet
       case rel=>
        first
         | exact⟨w5.heap.size,_,rfl,rfl,rfl,Vg.out.size,heap_alloc_new _ _,Vg.out.alloc _⟩
         | exact⟨W1.heap.size,_,rfl,rfl,rfl,Nat.le_refl _,tq (o:=0) Vf.out,(iV (P:=fun h=>W1.heap.size≤h) (FY.out.mono (fun _ h=>h.elim)) 0 (m &&& Au.by' p k) (Nat.le_refl _)).old (fun _ h=>Or.inl h)⟩
     case rest=>
      obtain⟨sb,W2,hW2,rfl,rfl,hsb,hSb,hO2⟩:=hcut
      subst hW2
      have x_:=zH hSb
      have jy:Hid (mI w W2 g cl p fs vL (jV l) (l.map (·.last)) aj (.slice (some ⟨f_,0,none⟩) aj.length dE) rows o vN vO):=pM.out.gK hO2
      have F_:Hid (W2.heap[w2.heap.size+1]?=some (.cells (Ez L cl) 3 (0,0))):=(hO2.block _ (Array.getElem?_eq_some_iff.1 J3.out).1 (fun h=>h)).trans J3.out
      have Vh:Hid (Sb W2 w2.heap.size m):=Cw.out.only hO2 (fun h=>h)
      have aa_:g < W2.heap.size:=jy.out.pl.lt
      have aa':w2.heap.size+1 < W1.heap.size:=(Array.getElem?_eq_some_iff.1 J3.out).1
      have aba:sb < W2.heap.size:=hSb.lt
      have hSS:(m &&& Au.by' p k) < 2 ^ 256:=Nat.lt_of_le_of_lt Nat.and_le_right (HBy.out k)
      have J4:=zH hSS
      have NM:=HWY.out
      rw [List.drop_eq_getElem_cons (by simpa using vP),List.getElem_range] at NM
      have HW3:=zH NM
      obtain⟨D,hD,hKD⟩:=jy.out.mp
      have HD:=zH hD
      have XW:=zH hKD
      have hIM:IsMap D:=hD.isMap
      have HIM:=zH hIM
      clear hO2 hSb NM hD hKD hIM x0 x1 x2 x3 y0 y1 y2 y3 hSS Cw J3 pM
      by_cases hin:(m &&& Au.by' p k)∈aj
      ·have hh:Maps.has D (kc Tryz.prog (m &&& Au.by' p k))=true:=by rw [(XW.out _ J4.out).2];simp [hin]
       have J5:=zH hin
       have e4:W2.cell? ⟨w2.heap.size+1,k,none⟩=some (.int .i64 ((L[k]?.getD 0:Nat):Int)):=(ae F_.out).trans (qR L cl k vP)
       have q4:=ak F_.out k
       clear hin
       go_wp2_with (first | refine wpList_load_row rfl 124 _ rfl sb rfl 124 _ (0,0) _ x_.out Tryz.underlying124 rfl xN ?_ |(at_lookup;refine wpList_lookup_own_ok_int _ rfl _ _ 147 rfl 124 3 .i64 tY Tryz.underlying147 Tryz.underlying3 (JX _) (w.heap.size+1+1) aj.length D rfl HD.out _ _ rfl (iI _) ?_;intro c hat hwc;have hcq:c=(aj.idxOf (m &&& Au.by' p k):Int):=(by have e1:=(XW.out _ J4.out).1;rw [if_pos J5.out,hat] at e1;injection e1 with e1;injection e1);subst hcq;clear hat hwc))
       go_roundg (cl -(k+1))
       case measure=>omega
       case rel=>
        have sI:Only (·=w2.heap.size+1) W2 (W2.setCell ⟨w2.heap.size+1,k,none⟩ (.int .i64 (aj.idxOf (m &&& Au.by' p k):Int))):=(Only.refl (·=w2.heap.size+1) _).setCell (p:=⟨w2.heap.size+1,k,none⟩) rfl _
        refine⟨k+1,aj,f_,dE,L++[aj.idxOf (m &&& Au.by' p k)],_,rfl,rfl,by omega,JZ,rfl,by go_num,by simp [EC.out],J2,BK.out.2,BK.out.1,F9.out,?_,?_,Vh.out.only sI (by omega),jy.out.ways F_.out (by decide) (by decide) (by decide) HNR.out Rx sI⟩
        ·rw [←HW3.out]
         simp only [Au.ways]
         rw [if_pos J5.out]
        ·have h:=aa (k:=k) F_.out (.int .i64 (aj.idxOf (m &&& Au.by' p k):Int))
         have e5:=EA L cl (aj.idxOf (m &&& Au.by' p k)) (by rw [EC.out];exact vP)
         rw [EC.out] at e5
         rw [e5] at h
         exact h
      ·have hh:Maps.has D (kc Tryz.prog (m &&& Au.by' p k))=false:=by rw [(XW.out _ J4.out).2];simp [hin]
       have J5:=zH hin
       clear hin
       by_cases NN:aj.length=300
       ·have q3:((aj.length:Int)==300)=true:=by rw [NN];rfl
        have hR:Au.states p l fs cl 301 0 [0] [] []=none:=by
         rw [←HST.out,show 301 - n=(300 - n)+1 by omega]
         simp only [Au.states,HS.out]
         have e:Au.may p fs s=m:=HM.out.symm
         rw [e,←HW3.out]
         simp only [Au.ways]
         rw [if_neg J5.out,if_pos NN]
        have HR:=zH hR
        clear hR NN
        have r0:W2.cell? ⟨w.heap.size,0,none⟩=some (.slice none 0 0):=ae jy.out.rb
        have r1:W2.cell? ⟨w.heap.size,1,none⟩=some (.slice none 0 0):=ae jy.out.rb
        have r2:=ak jy.out.rb 0
        have r3:=ak jy.out.rb 1
        go_wp2_with (first | refine wpList_load_row rfl 124 _ rfl sb rfl 124 _ (0,0) _ x_.out Tryz.underlying124 rfl xN ?_ |(at_lookup;refine wpList_lookup_own_ok_int _ rfl _ _ 147 rfl 124 3 .i64 tY Tryz.underlying147 Tryz.underlying3 (JX _) (w.heap.size+1+1) aj.length D rfl HD.out _ _ rfl (iI _) ?_;intro c hat hwc;clear hat hwc))
        refine bodyPost_ret (v:=.tuple #[pJ,.int .i64 27]) (a_ (p:=2) (u:=3) rfl _ _ w.heap.size 71 #[.slice none 0 0,.slice none 0 0] (0,0) _ rfl (aa (aa jy.out.rb _) _) Tryz.underlying71 rfl JW rfl) rfl ?_
        rw [HR.out]
        refine⟨rfl,?_⟩
        exact Only.old (P:=fun h=>w.heap.size≤h) (Only.setCell (S:=fun h=>w.heap.size≤h) (Only.setCell (S:=fun h=>w.heap.size≤h) jy.out.on (p:=⟨w.heap.size,0,none⟩) (Nat.le_refl w.heap.size) _) (p:=⟨w.heap.size,1,none⟩) (Nat.le_refl w.heap.size) _) (fun _ h=>Or.inl h)
       ·have q3:((aj.length:Int)==300)=false:=by simp;omega
        have aaU:aj.length < 300:=by omega
        clear NN
        go_wp2_with (first | refine wpList_load_row rfl 124 _ rfl sb rfl 124 _ (0,0) _ Zc.out Tryz.underlying124 rfl xN ?_ | refine wpList_load_row rfl 124 _ rfl sb rfl 124 _ (0,0) _ x_.out Tryz.underlying124 rfl xN ?_ |(at_lookup;refine wpList_lookup_own_ok_int _ rfl _ _ 147 rfl 124 3 .i64 tY Tryz.underlying147 Tryz.underlying3 (JX _) (w.heap.size+1+1) aj.length D rfl HD.out _ _ rfl (iI _) ?_;intro c hat hwc;clear hat hwc) |(at_mapUpdate;refine wpList_mapUpdate_own _ rfl _ _ _ 147 rfl 124 3 tY Tryz.underlying147 _ (w.heap.size+1+1) aj.length D rfl HD.out (by unfold maxLen;omega) _ _ _ rfl rfl (iI _) _ [] (plainElem_int Tryz.underlying3 (wf_i64 (a:=aj.length) (by omega))) ?_;intro w6 hM6 kE;have HM6:=zH hM6;have ED:Hid (Only (·=w.heap.size+1+1) W2 w6):=(Only.refl (·=w.heap.size+1+1) _).grown kE (fun k h=>by injection h with h;exact h.symm);have Zc:Hid (Sb w6 sb (m &&& Au.by' p k)):=x_.out.only ED.out (by omega);have HF6:Hid (w6.ownsRow (w.heap.size+1+1+1) 124 4 (.slice (some ⟨f_,0,none⟩) aj.length dE) aj.length (ni aj)):=bq jy.out.fd ED.out (fun q hq e=>by have:=(jy.out.fd.lt q hq).1;omega);have Gf:W2.heap.size≤w6.heap.size:=ED.out.size;clear hM6 kE x_) | refine wpList_buildSlice rfl 127 124 1 _ rfl (sC (m &&& Au.by' p k)) i7 _ Tryz.underlying127 h7 XE (by rw [XT];decide) (by rw [XT];decide) (um XT rfl rfl (by decide)) ?_ |(at_builtin;refine wpList_append_own_at _ rfl _ _ 127 rfl (w.heap.size+1+1+1) 124 i7 _ 4 32 Tryz.underlying127 h7 XE XT h72 rfl (by decide) _ _ _ rfl (HF6.out.alloc (.cells (sC (m &&& Au.by' p k)) 124)) ⟨w6.heap.size,0,none⟩ 1 1 (sC (m &&& Au.by' p k)).toList rfl rfl (xZ _ _) (uw _) (by unfold maxLen;omega) (by omega) (by simp;omega) ?_;intro v7 w7 jO J6 _ Vi;have Zd:Hid (Only (fun q=>(Value.slice (some ⟨f_,0,none⟩) aj.length dE).ownBlock=some q) w6 w7):=((Only.refl _ _).alloc _).trans ((Only.refl _ _).grown J6 (fun k h=>h));obtain⟨Rp,PX,rfl,abb,abd,abe,_⟩:=ax jO (by omega);have HF7:=zH jO;have zX:Hid (Rp≠w2.heap.size):=F7 Vi J2 (by simp;omega);have Rz:Hid (w6.heap[w2.heap.size+1]?=some (.cells (Ez L cl) 3 (0,0))):=(ED.out.block _ (Array.getElem?_eq_some_iff.1 F_.out).1 (by omega)).trans F_.out;have NP:Hid (w7.heap[w2.heap.size+1]?=some (.cells (Ez L cl) 3 (0,0))):=(Zd.out.block _ (Array.getElem?_eq_some_iff.1 Rz.out).1 (own_ne HF6.out Rz.out (by decide))).trans Rz.out;have Ze:Hid (Sb w7 w2.heap.size m):=(Vh.out.only ED.out (by omega)).only Zd.out (Rq J2);have e4:w7.cell? ⟨w2.heap.size+1,k,none⟩=some (.int .i64 ((L[k]?.getD 0:Nat):Int)):=(ae NP.out).trans (qR L cl k vP);have q4:=ak NP.out k;clear jO J6 Vi))
        have Zf:Hid (mI w w7 g cl p fs vL (jV l) (l.map (·.last)) (aj++[(m &&& Au.by' p k)]) (.slice (some ⟨Rp,0,none⟩) (aj.length+1) PX) rows o vN vO):=jy.out.more J4.out J5.out XW.out HIM.out HM6.out ED.out HF7.out Zd.out
        go_roundg (cl -(k+1))
        case measure=>omega
        case rel=>
         have el:(aj++[(m &&& Au.by' p k)]).length=aj.length+1:=by simp
         have sI:Only (·=w2.heap.size+1) w7 (w7.setCell ⟨w2.heap.size+1,k,none⟩ (.int .i64 (aj.length:Int))):=(Only.refl (·=w2.heap.size+1) _).setCell (p:=⟨w2.heap.size+1,k,none⟩) rfl _
         refine⟨k+1,aj++[(m &&& Au.by' p k)],Rp,PX,L++[aj.length],_,rfl,rfl,by omega,by rw [el];omega,by rw [el],by go_num,by simp [EC.out],zX.out,by rw [el];have:=BK.out.2;omega,?_,?_,?_,?_,Ze.out.only sI (by omega),?_⟩
         ·rw [List.getElem?_append_left (List.getElem?_eq_some_iff.1 BK.out.1).1]
          exact BK.out.1
         ·intro x hx
          rcases List.mem_append.1 hx with hx | hx
          ·exact F9.out x hx
          ·simp at hx
           rw [hx]
           exact J4.out
         ·rw [←HW3.out]
          simp only [Au.ways]
          rw [if_neg J5.out,if_neg (by omega)]
         ·have h:=aa (k:=k) NP.out (.int .i64 (aj.length:Int))
          have e5:=EA L cl aj.length (by rw [EC.out];exact vP)
          rw [EC.out] at e5
          rw [e5] at h
          exact h
         ·rw [el]
          exact Zf.out.ways NP.out (by decide) (by decide) (by decide) HNR.out Rx sI
    ·have t6:decide ((k:Int) <(cl:Int))=false:=decide_eq_false (by omega)
     obtain rfl:k=cl:=by omega
     have NM:=HWY.out
     rw [List.drop_eq_nil_of_le (by simp)] at NM
     have HW3:=zH NM
     obtain⟨aN,cN,J7⟩:=ah pM.out.nx
     obtain⟨aO,cO,Zg⟩:=ah pM.out.ot
     subst J7 Zg
     have k0:W1.cell? ⟨w.heap.size+1,0,none⟩=some (.slice aN rows.length cN):=ae pM.out.ab
     have f0:=ak pM.out.ab 0
     have hab:w.heap.size+1 < W1.heap.size:=(Array.getElem?_eq_some_iff.1 pM.out.ab).1
     clear NM
     have aaV:rows.length≤300:=by rw [NL.out.1];omega
     have aaW:o.length≤300:=by rw [NL.out.2];omega
     have aaX:w.heap.size+1+1+1≤f_:=(pM.out.fd.lt f_ rfl).1
     go_wp2_with (at_builtin;refine wpList_append_own_at _ rfl _ _ 69 rfl (w.heap.size+1+1+1) 28 i4 _ 1 24 Tryz.underlying69 h4 h40 h41 ME rfl (by decide) _ _ _ rfl (pM.out.nx.alloc (.cells #[(.slice (some ⟨w2.heap.size+1,0,none⟩) k k)] 28)) ⟨W1.heap.size,0,none⟩ 1 1 [(.slice (some ⟨w2.heap.size+1,0,none⟩) k k)] rfl rfl (ja _ _ _) (fun u hu=>by simp at hu;subst hu;rfl) (by unfold maxLen;omega) (by omega) (by simp;omega) ?_;intro v8 w8 nk PY _ _;obtain⟨EE,EF,rfl,abf,abg,abh,_⟩:=ax nk (by omega);have XX:Hid (Only (fun q=>(Value.slice aN rows.length cN).ownBlock=some q) W1 w8):=((Only.refl _ _).alloc _).trans ((Only.refl _ _).grown PY (fun k h=>h));have J8:Hid (mI w (w8.setCell ⟨w.heap.size+1,0,none⟩ (.slice (some ⟨EE,0,none⟩) (rows.length+1) EF)) g k p fs vL (jV l) (l.map (·.last)) aj (.slice (some ⟨f_,0,none⟩) aj.length dE) (rows++[(w2.heap.size+1,L)]) o (.slice (some ⟨EE,0,none⟩) (rows.length+1) EF) (.slice aO o.length cO)):=pM.out.next (r:=(w2.heap.size+1,L)) ⟨Rx,J3.out,EC.out⟩ nk XX.out;have k8:w8.cell? ⟨w.heap.size+1,0,none⟩=some (.slice aN rows.length cN):=(World.cell?_of_block (a:=⟨w.heap.size+1,0,none⟩) (XX.out.block (w.heap.size+1) hab (fun e=>by have:=(pM.out.nx.lt _ e).1;omega))).trans k0;have f8:w8.frozen? ⟨w.heap.size+1,0,none⟩=false:=ak ((XX.out.block (w.heap.size+1) hab (fun e=>by have:=(pM.out.nx.lt _ e).1;omega)).trans pM.out.ab) 0;clear nk PY)
     generalize w8.setCell ⟨w.heap.size+1,0,none⟩ (.slice (some ⟨EE,0,none⟩) (rows.length+1) EF)=Wn at J8 ⊢
     clear k0 f0 k8 f8 XX
     have J9:∀j,j < 4→Wn.cell? ⟨f_,n*4+j,none⟩=some (.int .u64 (wd s j:Int)):=fun j hj=>by
      obtain⟨fb',PV,U8,_,_,_,qU⟩:=ax J8.out.fd (by have:=(List.getElem?_eq_some_iff.1 BK.out.1).1;omega)
      injection U8 with e1 e2 e3
      injection e1 with e1
      injection e1 with e1
      subst e1
      rw [qU (n*4+j) (by have:=(List.getElem?_eq_some_iff.1 BK.out.1).1;omega)]
      exact uu aj n j s BK.out.1 hj
     have hnf:(n:Int) <(aj.length:Int):=by have:=(List.getElem?_eq_some_iff.1 BK.out.1).1;omega
     have u0:Wn.cell? ⟨f_,n*4,none⟩=some (.int .u64 (wd s 0:Int)):=J9 0 (by decide)
     have u1:Wn.cell? ⟨f_,n*4+1,none⟩=some (.int .u64 (wd s 1:Int)):=J9 1 (by decide)
     have u2:Wn.cell? ⟨f_,n*4+2,none⟩=some (.int .u64 (wd s 2:Int)):=J9 2 (by decide)
     have Vj:Wn.cell? ⟨f_,n*4+3,none⟩=some (.int .u64 (wd s 3:Int)):=J9 3 (by decide)
     have o1:Wn.cell? ⟨w.heap.size+1,1,none⟩=some (.slice aO o.length cO):=ae J8.out.ab
     have zY:Hid (mI w Wn.drew g k p fs vL (jV l) (l.map (·.last)) aj (.slice (some ⟨f_,0,none⟩) aj.length dE) (rows++[(w2.heap.size+1,L)]) o (.slice (some ⟨EE,0,none⟩) (rows.length+1) EF) (.slice aO o.length cO)):=J8.out.gK (Only.refl _ _).drew
     have uy:Hid (∀(W':World),W'.ownsRow (w.heap.size+1+1+1) 124 4 (.slice (some ⟨f_,0,none⟩) aj.length dE) aj.length (ni aj)→(fun (w':World)=>w'.cell? ⟨f_,n*4,none⟩=some (.int .u64 (wd s 0:Int))∧w'.cell? ⟨f_,n*4+1,none⟩=some (.int .u64 (wd s 1:Int))∧w'.cell? ⟨f_,n*4+2,none⟩=some (.int .u64 (wd s 2:Int))∧w'.cell? ⟨f_,n*4+3,none⟩=some (.int .u64 (wd s 3:Int))) W'):=fun W' hfd=>by
      have hj:∀j,j < 4→W'.cell? ⟨f_,n*4+j,none⟩=some (.int .u64 (wd s j:Int)):=fun j hj=>by
       obtain⟨fb',PV,U8,_,_,_,qU⟩:=ax hfd (by have:=(List.getElem?_eq_some_iff.1 BK.out.1).1;omega)
       injection U8 with e1 e2 e3
       injection e1 with e1
       injection e1 with e1
       subst e1
       rw [qU (n*4+j) (by have:=(List.getElem?_eq_some_iff.1 BK.out.1).1;omega)]
       exact uu aj n j s BK.out.1 hj
      exact⟨hj 0 (by decide),hj 1 (by decide),hj 2 (by decide),hj 3 (by decide)⟩
     have Vk:Hid (∀(W':World),mV W' g k p fs vL (jV l)→Lw W' (fun b=>b < w.heap.size) vL (l.map (·.last))→Calls Tryz.prog 82 #[.pointer (some ⟨g,0,none⟩),Value.agg #[.int .u64 (wd s 0:Int),.int .u64 (wd s 1:Int),.int .u64 (wd s 2:Int),.int .u64 (wd s 3:Int)]] W' fun e w'=>e=.returned (.int .u32 (Au.out l s:Int))∧Only (fun _=>False) W' w'):=fun W' hP' hL'=>by
      have h:=Np (fun b=>b < w.heap.size) g k p.sets.length _ _ fs vL (jV l) s (l.map (·.last)) W' hP' hL' (by simpa using hl) (JQ l hl) Uf.out YT.out
      have e:vJ (l.map (·.last)) s (jV l) (l.map (·.last)).length=Au.out l s:=by rw [List.length_map];exact Rh l s
      rw [e] at h
      exact h
     have abj:w.heap.size+1+1+1≤Wn.heap.size:=by have:=(J8.out.fd.lt f_ rfl).2;omega
     have hWn:Wn.heap.size≤Wn.heap.size:=Nat.le_refl _
     clear u0 u1 u2 Vj J9
     refine wp_region_held_drew (S:=fun (w':World)=>w'.cell? ⟨f_,n*4,none⟩=some (.int .u64 (wd s 0:Int))∧w'.cell? ⟨f_,n*4+1,none⟩=some (.int .u64 (wd s 1:Int))∧w'.cell? ⟨f_,n*4+2,none⟩=some (.int .u64 (wd s 2:Int))∧w'.cell? ⟨f_,n*4+3,none⟩=some (.int .u64 (wd s 3:Int))) (by kernel_rfl) (uy.out _ zY.out.fd) (fun hHeld=>?_)
     refine bQ (i:=0) (v:=Value.pointer (some ⟨w.heap.size+1,1,none⟩)) rfl ?_
     simp only [Act.put,zA,zB,zC]
     refine bQ (i:=2) (v:=Value.pointer (some ⟨g,0,none⟩)) rfl ?_
     simp only [Act.put,zA,zB,zC]
     refine bQ (i:=3) (v:=Value.slice (some ⟨f_,0,none⟩) aj.length dE) rfl ?_
     simp only [Act.put,zA,zB,zC]
     refine bQ (i:=4) (v:=Value.int .i64 (n:Int)) rfl ?_
     simp only [Act.put,zA,zB,zC]
     refine bQ (i:=5) (v:=Value.pointer (some ⟨f_,n*4,none⟩)) rfl ?_
     simp only [Act.put,zA,zB,zC]
     refine tk (i:=6) (v:=Value.agg #[.int .u64 (wd s 0:Int),.int .u64 (wd s 1:Int),.int .u64 (wd s 2:Int),.int .u64 (wd s 3:Int)]) rfl (Or.inl ⟨by rfl,fun w hSw=>by obtain⟨q0,q1,q2,q3⟩:=hSw;go_simp⟩) ?_
     simp only [Act.put,zA,zB,zC]
     refine wpAnyH_ready (rs:=[1,7]) (by kernel_rfl) (by simp) ?_
     refine AllReadyH.cons rfl (fun K hK=>?_) (AllReadyH.cons rfl (fun K hK=>?_) AllReadyH.nil)
     ·rw [if_pos (by rfl)]
      go_simp
      refine hK.out _ _ (uy.out _ zY.out.fd) (fun J_=>?_)
      clear hK
      refine wpAnyH_ready (rs:=[7]) (by kernel_rfl) (by simp) ?_
      refine AllReadyH.cons rfl (fun K hK=>?_) AllReadyH.nil
      rw [if_pos (by rfl)]
      go_simp
      refine (Vk.out _ zY.out.pl zY.out.lw).mono ?_
      rintro e w9 ⟨rfl,Zh⟩
      have zZ:Hid (mI w w9 g k p fs vL (jV l) (l.map (·.last)) aj (.slice (some ⟨f_,0,none⟩) aj.length dE) (rows++[(w2.heap.size+1,L)]) o (.slice (some ⟨EE,0,none⟩) (rows.length+1) EF) (.slice aO o.length cO)):=zY.out.gK Zh
      have dh:Hid (mI w (w9.alloc (.cells #[.int .u32 (Au.out l s:Int)] 32)) g k p fs vL (jV l) (l.map (·.last)) aj (.slice (some ⟨f_,0,none⟩) aj.length dE) (rows++[(w2.heap.size+1,L)]) o (.slice (some ⟨EE,0,none⟩) (rows.length+1) EF) (.slice aO o.length cO)):=zZ.out.gK ((Only.refl _ _).alloc _)
      have p1:w9.cell? ⟨w.heap.size+1,1,none⟩=some (.slice aO o.length cO):=ae zZ.out.ab
      have p1a:(w9.alloc (.cells #[.int .u32 (Au.out l s:Int)] 32)).cell? ⟨w.heap.size+1,1,none⟩=some (.slice aO o.length cO):=ae dh.out.ab
      refine hK.out _ _ (uy.out _ zZ.out.fd) (fun RD=>?_)
      clear hK
      refine wpAnyH_ready (rs:=[8]) (by kernel_rfl) (by simp) ?_
      refine AllReadyH.cons rfl (fun K hK=>?_) AllReadyH.nil
      rw [if_pos (by rfl)]
      go_simp
      refine hK.out _ _ (uy.out _ dh.out.fd) (fun Ka=>?_)
      clear hK
      refine wpAnyH_ready (rs:=[9]) (by kernel_rfl) (by simp) ?_
      refine AllReadyH.cons rfl (fun K hK=>?_) AllReadyH.nil
      refine cK rfl (wp_append_at _ _ _ 65 rfl (w.heap.size+1+1+1) 32 i5 _ 1 4 Tryz.underlying65 h5 h50 PU MF rfl (by decide) (.slice aO o.length cO) o.length (o.map jw) rfl dh.out.ot ⟨w9.heap.size,0,none⟩ 1 1 [jw (Au.out l s)] rfl rfl (zV _ _) (fun u hu=>by simp at hu;subst hu;rfl) (by unfold maxLen;omega) (by omega) (by have:=dh.out.fd.lt f_ rfl;omega) ?_)
      intro v10 wU jC Gg
      obtain⟨Cy,Cz,rfl,Vl,Vm,Vn,_⟩:=ax jC (by omega)
      have CB:Only (fun q=>(Value.slice aO o.length cO).ownBlock=some q) (w9.alloc (.cells #[.int .u32 (Au.out l s:Int)] 32)) wU:=(Only.refl _ _).grown Gg (fun k h=>h)
      have z_:Hid (mI w (wU.setCell ⟨w.heap.size+1,1,none⟩ (.slice (some ⟨Cy,0,none⟩) (o.length+1) Cz)) g k p fs vL (jV l) (l.map (·.last)) aj (.slice (some ⟨f_,0,none⟩) aj.length dE) (rows++[(w2.heap.size+1,L)]) (o++[Au.out l s]) (.slice (some ⟨EE,0,none⟩) (rows.length+1) EF) (.slice (some ⟨Cy,0,none⟩) (o.length+1) Cz)):=dh.out.tell (x:=Au.out l s) jC CB
      have Aa:wU.heap[w.heap.size+1]?=some (.cells #[.slice (some ⟨EE,0,none⟩) (rows.length+1) EF,.slice aO o.length cO] 71 (0,0)):=(CB.block _ (Array.getElem?_eq_some_iff.1 dh.out.ab).1 (fun e=>by have:=(dh.out.ot.lt _ e).1;omega)).trans dh.out.ab
      have Kc:wU.ownsRow (w.heap.size+1+1+1) 124 4 (.slice (some ⟨f_,0,none⟩) aj.length dE) aj.length (ni aj):=by
       refine bq dh.out.fd CB (fun q hq e=>?_)
       obtain⟨_,⟨hv,_⟩ | ⟨g',cap,cur,hv,_,hh,_⟩⟩:=dh.out.fd
       ·rw [hv] at hq;cases hq
       ·rw [hv] at hq
        injection hq with hq
        simp only at hq
        subst hq
        exact own_ne dh.out.ot hh (by decide) e
      have d10:wU.cell? ⟨w.heap.size+1,1,none⟩=some (.slice aO o.length cO):=ae Aa
      have g10:=ak Aa 1
      refine hK.out _ _ (uy.out _ Kc) (fun CE=>?_)
      clear hK
      try simp only [Act.put,zA,zB,zC]
      refine bQ (i:=10) (v:=Value.pointer (some ⟨w.heap.size+1,1,none⟩)) rfl ?_
      simp only [Act.put,zA,zB,zC]
      refine wpAnyH_ready (rs:=[11]) (by kernel_rfl) (by simp) ?_
      refine AllReadyH.cons rfl (fun K hK=>?_) AllReadyH.nil
      rw [if_pos (by rfl)]
      go_simp
      refine hK.out _ _ (uy.out _ z_.out.fd) (fun CF=>?_)
      clear hK
      refine wpAnyH_done (by kernel_rfl) ?_ _
      clear CE CF
      go_wp2_with fail
      go_roundg (301 -(n+1))
      case measure=>omega
      case rel=>
       refine⟨n+1,aj,f_,dE,rows++[(w2.heap.size+1,L)],o++[Au.out l s],.slice (some ⟨EE,0,none⟩) (rows.length+1) EF,.slice (some ⟨Cy,0,none⟩) (o.length+1) Cz,_,rfl,rfl,by have:=(List.getElem?_eq_some_iff.1 BK.out.1).1;omega,by have:=(List.getElem?_eq_some_iff.1 BK.out.1).1;omega,JZ,rfl,by go_num,by simp [NL.out.1],by simp [NL.out.2],F9.out,?_,?_⟩
       ·rw [←HST.out,show 301 - n=(300 - n)+1 by omega]
        simp only [Au.states,HS.out]
        have e:Au.may p fs s=m:=HM.out.symm
        rw [e,←HW3.out,show 301 -(n+1)=300 - n by omega,List.map_append]
        rfl
       ·have el1:(rows++[(w2.heap.size+1,L)]).length=rows.length+1:=by simp
        exact z_.out
     ·rw [if_pos (by rfl)]
      go_simp
      refine (Vk.out _ zY.out.pl zY.out.lw).mono ?_
      rintro e w9 ⟨rfl,Zh⟩
      have zZ:Hid (mI w w9 g k p fs vL (jV l) (l.map (·.last)) aj (.slice (some ⟨f_,0,none⟩) aj.length dE) (rows++[(w2.heap.size+1,L)]) o (.slice (some ⟨EE,0,none⟩) (rows.length+1) EF) (.slice aO o.length cO)):=zY.out.gK Zh
      have dh:Hid (mI w (w9.alloc (.cells #[.int .u32 (Au.out l s:Int)] 32)) g k p fs vL (jV l) (l.map (·.last)) aj (.slice (some ⟨f_,0,none⟩) aj.length dE) (rows++[(w2.heap.size+1,L)]) o (.slice (some ⟨EE,0,none⟩) (rows.length+1) EF) (.slice aO o.length cO)):=zZ.out.gK ((Only.refl _ _).alloc _)
      have p1:w9.cell? ⟨w.heap.size+1,1,none⟩=some (.slice aO o.length cO):=ae zZ.out.ab
      have p1a:(w9.alloc (.cells #[.int .u32 (Au.out l s:Int)] 32)).cell? ⟨w.heap.size+1,1,none⟩=some (.slice aO o.length cO):=ae dh.out.ab
      refine hK.out _ _ (uy.out _ zZ.out.fd) (fun RD=>?_)
      clear hK
      refine wpAnyH_ready (rs:=[1,8]) (by kernel_rfl) (by simp) ?_
      refine AllReadyH.cons rfl (fun K hK=>?_) (AllReadyH.cons rfl (fun K hK=>?_) AllReadyH.nil)
      focus
       rw [if_pos (by rfl)]
       go_simp
       refine hK.out _ _ (uy.out _ zZ.out.fd) (fun J_=>?_)
       clear hK
       refine wpAnyH_ready (rs:=[8]) (by kernel_rfl) (by simp) ?_
       refine AllReadyH.cons rfl (fun K hK=>?_) AllReadyH.nil
       rw [if_pos (by rfl)]
       go_simp
       refine hK.out _ _ (uy.out _ dh.out.fd) (fun Ka=>?_)
      rotate_left
      focus
       rw [if_pos (by rfl)]
       go_simp
       refine hK.out _ _ (uy.out _ dh.out.fd) (fun Ka=>?_)
       clear hK
       refine wpAnyH_ready (rs:=[1]) (by kernel_rfl) (by simp) ?_
       refine AllReadyH.cons rfl (fun K hK=>?_) AllReadyH.nil
       rw [if_pos (by rfl)]
       go_simp
       refine hK.out _ _ (uy.out _ dh.out.fd) (fun J_=>?_)
      rotate_left
      all_goals
       clear hK
       refine wpAnyH_ready (rs:=[9]) (by kernel_rfl) (by simp) ?_
       refine AllReadyH.cons rfl (fun K hK=>?_) AllReadyH.nil
       refine cK rfl (wp_append_at _ _ _ 65 rfl (w.heap.size+1+1+1) 32 i5 _ 1 4 Tryz.underlying65 h5 h50 PU MF rfl (by decide) (.slice aO o.length cO) o.length (o.map jw) rfl dh.out.ot ⟨w9.heap.size,0,none⟩ 1 1 [jw (Au.out l s)] rfl rfl (zV _ _) (fun u hu=>by simp at hu;subst hu;rfl) (by unfold maxLen;omega) (by omega) (by have:=dh.out.fd.lt f_ rfl;omega) ?_)
       intro v10 wU jC Gg
       obtain⟨Cy,Cz,rfl,Vl,Vm,Vn,_⟩:=ax jC (by omega)
       have CB:Only (fun q=>(Value.slice aO o.length cO).ownBlock=some q) (w9.alloc (.cells #[.int .u32 (Au.out l s:Int)] 32)) wU:=(Only.refl _ _).grown Gg (fun k h=>h)
       have z_:Hid (mI w (wU.setCell ⟨w.heap.size+1,1,none⟩ (.slice (some ⟨Cy,0,none⟩) (o.length+1) Cz)) g k p fs vL (jV l) (l.map (·.last)) aj (.slice (some ⟨f_,0,none⟩) aj.length dE) (rows++[(w2.heap.size+1,L)]) (o++[Au.out l s]) (.slice (some ⟨EE,0,none⟩) (rows.length+1) EF) (.slice (some ⟨Cy,0,none⟩) (o.length+1) Cz)):=dh.out.tell (x:=Au.out l s) jC CB
       have Aa:wU.heap[w.heap.size+1]?=some (.cells #[.slice (some ⟨EE,0,none⟩) (rows.length+1) EF,.slice aO o.length cO] 71 (0,0)):=(CB.block _ (Array.getElem?_eq_some_iff.1 dh.out.ab).1 (fun e=>by have:=(dh.out.ot.lt _ e).1;omega)).trans dh.out.ab
       have Kc:wU.ownsRow (w.heap.size+1+1+1) 124 4 (.slice (some ⟨f_,0,none⟩) aj.length dE) aj.length (ni aj):=by
        refine bq dh.out.fd CB (fun q hq e=>?_)
        obtain⟨_,⟨hv,_⟩ | ⟨g',cap,cur,hv,_,hh,_⟩⟩:=dh.out.fd
        ·rw [hv] at hq;cases hq
        ·rw [hv] at hq
         injection hq with hq
         simp only at hq
         subst hq
         exact own_ne dh.out.ot hh (by decide) e
       have d10:wU.cell? ⟨w.heap.size+1,1,none⟩=some (.slice aO o.length cO):=ae Aa
       have g10:=ak Aa 1
       refine hK.out _ _ (uy.out _ Kc) (fun CE=>?_)
       clear hK
       try simp only [Act.put,zA,zB,zC]
       refine bQ (i:=10) (v:=Value.pointer (some ⟨w.heap.size+1,1,none⟩)) rfl ?_
       simp only [Act.put,zA,zB,zC]
       refine wpAnyH_ready (rs:=[11]) (by kernel_rfl) (by simp) ?_
       refine AllReadyH.cons rfl (fun K hK=>?_) AllReadyH.nil
       rw [if_pos (by rfl)]
       go_simp
       refine hK.out _ _ (uy.out _ z_.out.fd) (fun CF=>?_)
       clear hK
       refine wpAnyH_done (by kernel_rfl) ?_ _
       clear CE CF
       go_wp2_with fail
       go_roundg (301 -(n+1))
       case measure=>omega
       case rel=>
        refine⟨n+1,aj,f_,dE,rows++[(w2.heap.size+1,L)],o++[Au.out l s],.slice (some ⟨EE,0,none⟩) (rows.length+1) EF,.slice (some ⟨Cy,0,none⟩) (o.length+1) Cz,_,rfl,rfl,by have:=(List.getElem?_eq_some_iff.1 BK.out.1).1;omega,by have:=(List.getElem?_eq_some_iff.1 BK.out.1).1;omega,JZ,rfl,by go_num,by simp [NL.out.1],by simp [NL.out.2],F9.out,?_,?_⟩
        ·rw [←HST.out,show 301 - n=(300 - n)+1 by omega]
         simp only [Au.states,HS.out]
         have e:Au.may p fs s=m:=HM.out.symm
         rw [e,←HW3.out,show 301 -(n+1)=300 - n by omega,List.map_append]
         rfl
        ·have el1:(rows++[(w2.heap.size+1,L)]).length=rows.length+1:=by simp
         exact z_.out
  ·have t2:decide ((n:Int) <(fl:Int))=false:=decide_eq_false (by omega)
   have hR:Au.states p l fs cl 301 0 [0] [] []=some (rows.map (·.2),o):=by
    rw [←HST.out,show 301 - n=(300 - n)+1 by omega]
    simp only [Au.states]
    rw [List.getElem?_eq_none (by rw [←U9.out];omega)]
   have HR:=zH hR
   clear hR
   obtain⟨aN,cN,J7⟩:=ah zW.out.nx
   obtain⟨aO,cO,Zg⟩:=ah zW.out.ot
   subst J7 Zg
   have k0:W.cell? ⟨w.heap.size+1,0,none⟩=some (.slice aN rows.length cN):=ae zW.out.ab
   have k1:W.cell? ⟨w.heap.size+1,1,none⟩=some (.slice aO o.length cO):=ae zW.out.ab
   have r0:W.cell? ⟨w.heap.size,0,none⟩=some (.slice none 0 0):=ae zW.out.rb
   have r1:W.cell? ⟨w.heap.size,1,none⟩=some (.slice none 0 0):=ae zW.out.rb
   have r2:=ak zW.out.rb 0
   have r3:=ak zW.out.rb 1
   go_wp2_with fail
   have hS2:Only (·=w.heap.size) W ((W.setCell ⟨w.heap.size,0,none⟩ (.slice aN rows.length cN)).setCell ⟨w.heap.size,1,none⟩ (.slice aO o.length cO)):=Only.setCell (S:=(·=w.heap.size)) (Only.setCell (S:=(·=w.heap.size)) (Only.refl _ _) (p:=⟨w.heap.size,0,none⟩) rfl _) (p:=⟨w.heap.size,1,none⟩) rfl _
   refine bodyPost_ret (v:=.tuple #[.agg #[.slice aN rows.length cN,.slice aO o.length cO],.int .i64 0]) (a_ (p:=2) (u:=3) rfl _ _ w.heap.size 71 #[.slice aN rows.length cN,.slice aO o.length cO] (0,0) _ rfl (aa (aa zW.out.rb _) _) Tryz.underlying71 rfl JW rfl) rfl ?_
   rw [HR.out]
   refine⟨⟨_,rfl,rows,_,_,rfl,rfl,pK (bq zW.out.nx hS2 (fun q hq e=>by have:=(zW.out.nx.lt q hq).1;omega)) (by omega),pK (bq zW.out.ot hS2 (fun q hq e=>by have:=(zW.out.ot.lt q hq).1;omega)) (by omega),?_⟩,(zW.out.on.trans (hS2.mono (fun _ h=>by omega))).old (fun _ h=>Or.inl h)⟩
   intro r hr
   obtain⟨b1,b2,b3⟩:=zW.out.ro r hr
   exact⟨by omega,(hS2.block _ (Array.getElem?_eq_some_iff.1 b2).1 (by omega)).trans b2,b3⟩
end Go.Proofs.YtdlabakleldgaaaGreatDoor
