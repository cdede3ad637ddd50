/- Mk Awx Sg0 Shl -/
import Derived.Test.YtdlabakleldgaaaGreatDoorZ00
import Derived.Test.YtdlabakleldgaaaGreatDoorZ16
import Derived.Great.Ranges
import Derived.Test.YtdlabakleldgaaaGreatDoorZ17
import Derived.Test.YtdlabakleldgaaaGreatDoorZ14
set_option linter.unusedVariables false
set_option linter.unusedSimpArgs false
set_option maxRecDepth 100000
set_option maxHeartbeats 8000000
namespace Go.Proofs.YtdlabakleldgaaaGreatDoor
open Go.RowKit Go.Maps
open Rl (Ex)
def vQ:Nat→Int
 | 1=>2
 | 2=>26
 | _=>27
def PZ (w:World) (cl:Int) (R:Except Nat (List (List Nat) × List Nat)) (e:Ending) (w':World):Prop:=
 (match R with
 | .error k=>e=.returned (.tuple #[pJ,.int .i64 (vQ k)])
 | .ok (nx,o)=>∃v,e=.returned (.tuple #[v,.int .i64 0])∧NJ w' w.heap.size cl.toNat v nx o)∧Only (fun _=>False) w w'
def zP:Array Value:=pC 0 0 (fun _=>0) (fun _=>0) 0 (.slice none 0 0) 0
theorem Zi:Tryz.zeroCells129=zP:=by kernel_rfl
theorem Vp (cl:Nat):zP.setIfInBounds 0 (.int .i64 (cl:Int))=pC cl 0 (fun _=>0) (fun _=>0) 0 (.slice none 0 0) 0:=by
 apply Array.ext_getElem?
 intro j
 unfold zP
 rw [Array.getElem?_setIfInBounds,eU]
 by_cases hj:j < 904
 ·rw [mU _ _ _ _ _ _ _ _ hj,mU _ _ _ _ _ _ _ _ hj]
  by_cases e:0=j
  ·subst e
   rfl
  ·rw [if_neg e]
   unfold gz
   rw [if_neg (show ¬ j=0 from fun h=>e h.symm),if_neg (show ¬ j=0 from fun h=>e h.symm)]
 ·rw [if_neg (by omega),Array.getElem?_eq_none (by rw [eU];omega),Array.getElem?_eq_none (by rw [eU];omega)]
def Lex (w:World) (F:Nat→Prop) (es:List Ex) (a:Option Addr) (c:Nat):Prop:=es.length≤maxLen∧(es≠[]→∃b off,a=some ⟨b,off,none⟩∧F b∧cZ w F es b off)
theorem cZ.get {w:World} {F:Nat→Prop}:∀(es:List Ex) (b off i:Nat) (e:Ex),cZ w F es b off→es[i]?=some e→∃o s k,w.cell? ⟨b,off+i*3,none⟩=some o∧w.cell? ⟨b,off+i*3+1,none⟩=some s∧w.cell? ⟨b,off+i*3+2,none⟩=some k∧Te w F e (.agg #[o,s,k])
 | e0::es,b,off,0,e,ht,h=>by
  injection h with h
  subst h
  unfold cZ at ht
  exact ht.1
 | e0::es,b,off,i+1,e,ht,h=>by
  unfold cZ at ht
  obtain⟨o,s,k,h0,h1,h2,h3⟩:=cZ.get es b (off+3) i e ht.2 (by simpa using h)
  rw [show off+3+i*3=off+(i+1)*3 by omega] at h0 h1 h2
  exact⟨o,s,k,h0,h1,h2,h3⟩
theorem Ke (e:Ex) (es:List Ex) (l:List Au.Nd) (p:Au.Pl):Au.all (e::es) l p=match Au.node e p with | none=>none | some (x,p1)=>Au.all es (l++[x]) p1:=by
 simp only [Au.all]
 rfl
def Kg (l:List Au.Nd):Nat:=l.foldl (fun m x=>m ||| x.first) 0
theorem Kh (l:List Au.Nd) (x:Au.Nd):Kg (l++[x])=Kg l ||| x.first:=by simp [Kg]
theorem Ki (cl:Nat):Jl cl Au.MW=fun _=>0:=funext fun c=>by
 unfold Jl Au.by' Au.MW
 simp
theorem Vq (p:Au.Pl) (h:p.sets.length≤200) (c:Nat):Au.by' p c < 2 ^ 256:=by
 apply Nat.lt_of_lt_of_le (m:=2 ^ p.sets.length)
 ·apply Nat.lt_pow_two_of_testBit
  intro i hi
  unfold Au.by'
  rw [dZ]
  simp
  omega
 ·exact Nat.pow_le_pow_right (by decide) (by omega)
/- MAKE -/
theorem NJ.keep {W W':World} {lo lo' cl:Nat} {v:Value} {nx:List (List Nat)} {o:List Nat} {P:Nat→Prop} (h:NJ W lo cl v nx o) (ho:Only P W W') (hP:∀b,P b→b < lo) (hl:lo'≤lo):NJ W' lo' cl v nx o:=by
 obtain⟨rows,vN,vO,h1,h2,h3,h4,h5⟩:=h
 refine⟨rows,vN,vO,h1,h2,pK (bq h3 ho (fun q hq e=>by have:=(h3.lt q hq).1;have:=hP q e;omega)) hl,pK (bq h4 ho (fun q hq e=>by have:=(h4.lt q hq).1;have:=hP q e;omega)) hl,fun r hr=>?_⟩
 obtain⟨b1,b2,b3⟩:=h5 r hr
 exact⟨by omega,(ho.block _ (Array.getElem?_eq_some_iff.1 b2).1 (fun e=>by have:=hP _ e;omega)).trans b2,b3⟩
theorem NJ.form {W:World} {lo cl:Nat} {v:Value} {nx:List (List Nat)} {o:List Nat} (h:NJ W lo cl v nx o):∃aN cN aO cO,v=.agg #[.slice aN nx.length cN,.slice aO o.length cO]:=by
 obtain⟨rows,vN,vO,h1,h2,h3,h4,h5⟩:=h
 obtain⟨aN,cN,rfl⟩:=ah h3
 obtain⟨aO,cO,rfl⟩:=ah h4
 exact⟨aN,cN,aO,cO,by rw [h1,h2,List.length_map]⟩
theorem Lw.lt {w:World} {F:Nat→Prop} {v:Value} {Ls:List Nat} (h:Lw w F v Ls):Lw w (fun b=>b < w.heap.size) v Ls:=by
 obtain⟨a,c,h1,h2,h3⟩:=h
 refine⟨a,c,h1,h2,fun i S hS=>?_⟩
 obtain⟨lb,k1,k2,k3,k4⟩:=h3 i S hS
 exact⟨lb,k1,k3,k3,k4⟩
theorem CG (a:Option Addr) (n c:Nat) (cl:Int) (w:World) (h:cl < 1∨24 < cl∨24 < n):
  Calls Tryz.prog 34 #[.slice a n c,.int .i64 cl] w fun e w'=>e=.returned (.tuple #[pJ,.int .i64 2])∧Only (fun _=>False) w w':=by
 unfold pJ
 by_cases h1:cl < 1
 ·clear h
  go_enter Tryz.func34,Tryz.ntmps34
  go_wp2_with fail
  exact bodyPost_ret (v:=.tuple #[.agg #[.slice none 0 0,.slice none 0 0],.int .i64 2]) (by simp [results,Tryz.results34,go_sem]) rfl ⟨rfl,(Only.refl _ _).alloc _⟩
 ·have g1:decide (cl < 1)=false:=decide_eq_false h1
  by_cases h2:24 < cl
  ·clear h
   go_enter Tryz.func34,Tryz.ntmps34
   go_wp2_with fail
   exact bodyPost_ret (v:=.tuple #[.agg #[.slice none 0 0,.slice none 0 0],.int .i64 2]) (by simp [results,Tryz.results34,go_sem]) rfl ⟨rfl,(Only.refl _ _).alloc _⟩
  ·have g2:decide (24 < cl)=false:=decide_eq_false h2
   have h3:(24:Int) <(n:Int):=by omega
   clear h h1 h2
   go_enter Tryz.func34,Tryz.ntmps34
   go_wp2_with fail
   exact bodyPost_ret (v:=.tuple #[.agg #[.slice none 0 0,.slice none 0 0],.int .i64 2]) (by simp [results,Tryz.results34,go_sem]) rfl ⟨rfl,(Only.refl _ _).alloc _⟩
theorem NQ (NI:PT) (F:Nat→Prop) (es:List Ex) (a:Option Addr) (c cl:Nat) (w:World) (hL:Lex w F es a c) (hF:∀b,F b→b < w.heap.size) (hD:∀e∈es,Au.dp e≤1000000) (abk:1≤cl) (hcl:cl≤24) (hn:es.length≤24):
  Calls Tryz.prog 34 #[.slice a es.length c,.int .i64 (cl:Int)] w (PZ w (cl:Int) (Au.make es (cl:Int))):=by
 have hmk:Au.make es (cl:Int)=match Au.all es [] Au.MW with
  | none=>.error 2
  | some (nd,p)=>match Au.states p nd (Kg nd) cl 301 0 [0] [] [] with
   | none=>.error 3
   | some r=>.ok r:=by
  unfold Au.make
  rw [if_neg (by omega)]
  rfl
 have EG:=zH hmk
 have HL:=zH hL
 have HF:=zH hF
 have HD:=zH hD
 have HS:Hid PT:=NI
 clear hmk hL hF hD NI
 obtain⟨n,hnn⟩:∃n,n=es.length:=⟨_,rfl⟩
 have HN:=zH hnn
 rw [←hnn] at hn ⊢
 clear hnn
 have g1:decide ((cl:Int) < 1)=false:=decide_eq_false (by omega)
 have g2:decide (24 <(cl:Int))=false:=decide_eq_false (by omega)
 have g3:decide (24 <(n:Int))=false:=decide_eq_false (by omega)
 have RF:Hid (mV ((w.alloc (.cells #[.slice none 0 0,.slice none 0 0] 71)).alloc (.cells (Tryz.zeroCells129.setIfInBounds 0 (.int .i64 (cl:Int))) 129)) (w.heap.size+1) cl Au.MW (Kg []) (.slice none 0 0) (jV [])):=by
  rw [Zi,Vp]
  unfold mV
  rw [Ki]
  exact heap_alloc2_new _ _ _
 have HB0:Hid (((w.alloc (.cells #[.slice none 0 0,.slice none 0 0] 71)).alloc (.cells (Tryz.zeroCells129.setIfInBounds 0 (.int .i64 (cl:Int))) 129)).heap[w.heap.size]?=some (.cells #[.slice none 0 0,.slice none 0 0] 71 (0,0))):=(Below.heap_alloc _ _ _ (by simp)).trans (heap_alloc_new _ _)
 have iA:Hid (Only (fun h=>w.heap.size≤h) w ((w.alloc (.cells #[.slice none 0 0,.slice none 0 0] 71)).alloc (.cells (Tryz.zeroCells129.setIfInBounds 0 (.int .i64 (cl:Int))) 129))):=((Only.refl _ _).alloc _).alloc _
 go_enter Tryz.func34,Tryz.ntmps34
 go_wp2_with fail
 go_loopg [26] n (fun gh v wr=>∃(k:Nat) (l:List Au.Nd) (p1:Au.Pl) (vL:Value) (W:World),W=wr∧gh=n - k∧k≤n∧v=.int .i64 (k:Int)∧l.length=k∧Au.all (es.drop k) l p1=Au.all es [] Au.MW∧Au.rJ p1∧p1.sets.length≤200∧(∀x∈l,Au.mF p1 x)∧mV W (w.heap.size+1) cl p1 (Kg l) vL (jV l)∧W.ownsRow ((w.heap.size+1)+1) 124 4 vL l.length (ni (l.map (·.last)))∧W.heap[w.heap.size]?=some (.cells #[.slice none 0 0,.slice none 0 0] 71 (0,0))∧Only (fun h=>w.heap.size≤h) w W)
 case atStart=>exact⟨0,[],Au.MW,.slice none 0 0,_,rfl,rfl,Nat.zero_le _,rfl,rfl,rfl,fun i=>⟨Nat.two_pow_pos _,fun _=>rfl⟩,Nat.zero_le _,(fun x hx=>by cases hx),RF.out,World.ownsRow_nil _ _ _ _,HB0.out,iA.out⟩
 case round=>
  obtain⟨k,l,p1,vL,W,hW,rfl,hk,rfl,hlk,hall,hok,hp2,Vr,hP,hV,hB,hO⟩:=hrel
  subst hW
  have fJ:=zH hP
  have HV:=zH hV
  have HB:=zH hB
  have HO:=zH hO
  have Vs:=zH hall
  have NR:Hid (Au.rJ p1∧p1.sets.length≤200∧(∀x∈l,Au.mF p1 x)):=⟨hok,hp2,Vr⟩
  have EC:=zH hlk
  have hgW:w.heap.size+1 < W.heap.size:=hP.lt
  clear hP hV hB hO hall hok hp2 Vr hlk RF HB0 iA
  by_cases mH:k < n
  ·have t1:(k:Int) <(n:Int):=by omega
   obtain⟨ex,hex⟩:∃ex,es[k]?=some ex:=⟨_,List.getElem?_eq_getElem (by rw [←HN.out];exact mH)⟩
   obtain⟨b,off,rfl,PH,Vt⟩:=HL.out.2 (by intro e;rw [e] at hex;simp at hex)
   obtain⟨o0,s0,k0,d0,d1,d2,hTe⟩:=cZ.get es b off k ex Vt hex
   have hbl:=HF.out b PH
   have EH:Kp w W F:=Kp.only HO.out (fun b hb=>by have:=HF.out b hb;omega)
   obtain⟨op,set,a',n',c',hv⟩:∃op set a' n' c',Value.agg #[o0,s0,k0]=.agg #[.int .u8 op,.int .u32 set,.slice a' n' c']:=by
    obtain⟨o,s,kids⟩:=ex
    obtain⟨a,cap,h,_⟩:=hTe.kids
    exact⟨o,s,a,_,cap,h⟩
   simp only [Value.agg.injEq,Array.mk.injEq,List.cons.injEq,and_true] at hv
   obtain⟨rfl,rfl,rfl⟩:=hv
   have c0:=EH b PH _ _ d0
   have c1:=EH b PH _ _ d1
   have c2:=EH b PH _ _ d2
   have MH:Te W F ex (.agg #[.int .u8 op,.int .u32 set,.slice a' n' c']):=Te.keep EH (fun _ h=>h) ex _ hTe
   have hA:Only (fun _=>False) W (W.alloc (.cells #[.int .u8 op,.int .u32 set,.slice a' n' c'] 117)):=(Only.refl _ _).alloc _
   have HC:Hid (Calls Tryz.prog 57 #[.pointer (some ⟨w.heap.size+1,0,none⟩),.agg #[.int .u8 op,.int .u32 set,.slice a' n' c']] (W.alloc (.cells #[.int .u8 op,.int .u32 set,.slice a' n' c'] 117)) (PN (W.alloc (.cells #[.int .u8 op,.int .u32 set,.slice a' n' c'] 117)) (w.heap.size+1) cl (Kg l) (jV l) (l.map (·.last)) (Au.node ex p1))):=by
    have:=JK F (w.heap.size+1) cl p1 (Kg l) vL (jV l) (l.map (·.last)) ex _ (W.alloc (.cells #[.int .u8 op,.int .u32 set,.slice a' n' c'] 117)) (fJ.out.only hA (fun h=>h)) (by rw [List.length_map];exact HV.out.alloc _) (by rw [List.length_map,EC.out];omega) (JQ l (by rw [EC.out];omega)) NR.out.1 NR.out.2.1 hcl (Te.keep (Kp.only hA (fun _ _ h=>h)) (fun _ h=>h) ex _ MH) (fun b hb=>by have:=HF.out b hb;omega) (HD.out ex (List.mem_of_getElem? hex))
    exact this
   have hal:=Vs.out
   rw [List.drop_eq_getElem_cons (by rw [←HN.out];exact mH)] at hal
   have he:es[k]'(by rw [←HN.out];exact mH)=ex:=(List.getElem?_eq_some_iff.1 hex).2
   rw [he,Ke] at hal
   have CJ:=zH hal
   clear hal he d0 d1 d2 hTe MH EH Vt hA
   cases hnd:Au.node ex p1 with
   | none=>
    have Zj:=zH hnd
    have CK:=CJ.out
    rw [hnd] at CK
    have HR:Hid (Au.make es (cl:Int)=.error 2):=by rw [EG.out,←CK];exact rfl
    clear hnd CK
    go_wp2_with (go_at_call 57;have hc:=HC.out;rw [Zj.out] at hc;refine hc.mono ?_;clear hc;rintro e w2 ⟨rfl,ho2⟩;have HB2:Hid (w2.heap[w.heap.size]?=some (.cells #[.slice none 0 0,.slice none 0 0] 71 (0,0))):=(ho2.block _ (by simp;omega) (by omega)).trans ((Below.heap_alloc _ _ _ (by omega)).trans HB.out);have aK:Hid (Only (fun h=>w.heap.size≤h) w w2):=(HO.out.alloc _).trans (ho2.mono (fun _ h=>by omega));have r0:w2.cell? ⟨w.heap.size,0,none⟩=some (.slice none 0 0):=ae HB2.out;have r1:w2.cell? ⟨w.heap.size,1,none⟩=some (.slice none 0 0):=ae HB2.out;have r2:=ak HB2.out 0;have r3:=ak HB2.out 1;clear ho2)
    refine bodyPost_ret (v:=.tuple #[pJ,.int .i64 26]) (a_ (p:=4) (u:=5) rfl _ _ w.heap.size 71 #[.slice none 0 0,.slice none 0 0] (0,0) _ rfl (aa (aa HB2.out _) _) Tryz.underlying71 rfl JW rfl) rfl ?_
    rw [HR.out]
    refine⟨rfl,?_⟩
    exact Only.old (P:=fun h=>w.heap.size≤h) (Only.setCell (S:=fun h=>w.heap.size≤h) (Only.setCell (S:=fun h=>w.heap.size≤h) aK.out (p:=⟨w.heap.size,0,none⟩) (Nat.le_refl w.heap.size) _) (p:=⟨w.heap.size,1,none⟩) (Nat.le_refl w.heap.size) _) (fun _ h=>Or.inl h)
   | some r=>
    obtain⟨x,p2⟩:=r
    have Zj:=zH hnd
    obtain⟨q1,q2,q3⟩:=Au.MX ex p1 NR.out.1 x p2 hnd
    have q4:=Au.IJ ex p1 NR.out.2.1
    rw [hnd] at q4
    simp only at q4
    have HQ:Hid (Au.rJ p2∧p2.sets.length≤200∧(∀y∈l++[x],Au.mF p2 y)):=⟨q1,q4.2,fun y hy=>by
     rcases List.mem_append.1 hy with hy | hy
     ·exact (NR.out.2.2 y hy).mono q3
     ·simp at hy;rw [hy];exact q2⟩
    have CK:=CJ.out
    rw [hnd] at CK
    have HA2:=zH CK
    clear hnd CK q1 q2 q3 q4
    go_wp2_with (go_at_call 57;have hc:=HC.out;rw [Zj.out] at hc;refine hc.mono ?_;clear hc;rintro e w2 ⟨rfl,⟨vL2,hp2,hv2⟩,ho2⟩;have HB2:Hid (w2.heap[w.heap.size]?=some (.cells #[.slice none 0 0,.slice none 0 0] 71 (0,0))):=(ho2.block _ (by simp;omega) (by omega)).trans ((Below.heap_alloc _ _ _ (by omega)).trans HB.out);have aK:Hid (Only (fun h=>w.heap.size≤h) w w2):=(HO.out.alloc _).trans (ho2.mono (fun _ h=>by omega));have XN:=zH hp2;have HVX:=zH hv2;clear ho2 hp2 hv2)
    go_roundg (n -(k+1))
    case measure=>omega
    case rel=>
     refine⟨k+1,l++[x],p2,vL2,_,rfl,rfl,by omega,by go_num,by simp [EC.out],HA2.out,HQ.out.1,HQ.out.2.1,HQ.out.2.2,?_,?_,HB2.out,aK.out⟩
     ·rw [Kh,JR]
      have:=XN.out
      rw [List.length_map] at this
      exact this
     ·have:=HVX.out
      rw [List.length_map] at this
      rw [List.map_append,List.length_append]
      exact this
  ·have t2:decide ((k:Int) <(n:Int))=false:=decide_eq_false (by omega)
   obtain rfl:k=n:=by omega
   have hal:=Vs.out
   rw [List.drop_eq_nil_of_le (by rw [←HN.out];exact Nat.le_refl _)] at hal
   simp only [Au.all] at hal
   have HC:Hid (Calls Tryz.prog 58 #[.pointer (some ⟨w.heap.size+1,0,none⟩)] W (Rm W cl (Au.states p1 l (Kg l) cl 301 0 [0] [] []))):=HS.out (w.heap.size+1) cl p1 l (Kg l) vL W fJ.out (Lw.lt (Lw.row (by rw [List.length_map];exact HV.out))) NR.out.2.1 hcl (by rw [EC.out];omega) (fun y hy=>by
    obtain⟨z,hz,rfl⟩:=List.mem_map.1 hy
    exact Jn NR.out.2.1 (NR.out.2.2 z hz).2) (Vq p1 NR.out.2.1)
   have Gh:=EG.out
   rw [←hal] at Gh
   simp only at Gh
   have Im:=zH Gh
   clear hal Gh
   cases hst:Au.states p1 l (Kg l) cl 301 0 [0] [] [] with
   | none=>
    have HST:=zH hst
    have HR:Hid (Au.make es (cl:Int)=.error 3):=by rw [Im.out,hst];exact rfl
    clear hst
    go_wp2_with (go_at_call 58;have hc:=HC.out;rw [HST.out] at hc;refine hc.mono ?_;clear hc;rintro e w2 ⟨rfl,ho2⟩;have HB2:Hid (w2.heap[w.heap.size]?=some (.cells #[.slice none 0 0,.slice none 0 0] 71 (0,0))):=(ho2.block _ (by omega) (fun h=>h)).trans HB.out;have aK:Hid (Only (fun h=>w.heap.size≤h) w w2):=HO.out.trans (ho2.mono (fun _ h=>h.elim));have r0:w2.cell? ⟨w.heap.size,0,none⟩=some (.slice none 0 0):=ae HB2.out;have r1:w2.cell? ⟨w.heap.size,1,none⟩=some (.slice none 0 0):=ae HB2.out;have r2:=ak HB2.out 0;have r3:=ak HB2.out 1;clear ho2;unfold pJ)
    refine bodyPost_ret (v:=.tuple #[pJ,.int .i64 27]) (a_ (p:=4) (u:=5) rfl _ _ w.heap.size 71 #[.slice none 0 0,.slice none 0 0] (0,0) _ rfl (aa (aa HB2.out _) _) Tryz.underlying71 rfl JW rfl) rfl ?_
    rw [HR.out]
    refine⟨rfl,?_⟩
    exact Only.old (P:=fun h=>w.heap.size≤h) (Only.setCell (S:=fun h=>w.heap.size≤h) (Only.setCell (S:=fun h=>w.heap.size≤h) aK.out (p:=⟨w.heap.size,0,none⟩) (Nat.le_refl w.heap.size) _) (p:=⟨w.heap.size,1,none⟩) (Nat.le_refl w.heap.size) _) (fun _ h=>Or.inl h)
   | some r=>
    obtain⟨nx,o⟩:=r
    have HST:=zH hst
    have HR:Hid (Au.make es (cl:Int)=.ok (nx,o)):=by rw [Im.out,hst];exact rfl
    clear hst
    go_wp2_with (go_at_call 58;have hc:=HC.out;rw [HST.out] at hc;refine hc.mono ?_;clear hc;rintro e w2 ⟨⟨v,rfl,hA⟩,ho2⟩;have HAu:=zH hA;obtain⟨aN,cN,aO,cO,rfl⟩:=hA.form;have HB2:Hid (w2.heap[w.heap.size]?=some (.cells #[.slice none 0 0,.slice none 0 0] 71 (0,0))):=(ho2.block _ (by omega) (fun h=>h)).trans HB.out;have aK:Hid (Only (fun h=>w.heap.size≤h) w w2):=HO.out.trans (ho2.mono (fun _ h=>h.elim));have r0:w2.cell? ⟨w.heap.size,0,none⟩=some (.slice none 0 0):=ae HB2.out;have r1:w2.cell? ⟨w.heap.size,1,none⟩=some (.slice none 0 0):=ae HB2.out;have r2:=ak HB2.out 0;have r3:=ak HB2.out 1;clear ho2 hA)
    have hS2:Only (·=w.heap.size) w2 ((w2.setCell ⟨w.heap.size,0,none⟩ (.slice aN nx.length cN)).setCell ⟨w.heap.size,1,none⟩ (.slice aO o.length cO)):=Only.setCell (S:=(·=w.heap.size)) (Only.setCell (S:=(·=w.heap.size)) (Only.refl _ _) (p:=⟨w.heap.size,0,none⟩) rfl _) (p:=⟨w.heap.size,1,none⟩) rfl _
    refine bodyPost_ret (v:=.tuple #[.agg #[.slice aN nx.length cN,.slice aO o.length cO],.int .i64 0]) (a_ (p:=4) (u:=5) rfl _ _ w.heap.size 71 #[.slice aN nx.length cN,.slice aO o.length cO] (0,0) _ rfl (aa (aa HB2.out _) _) Tryz.underlying71 rfl JW rfl) rfl ?_
    rw [HR.out]
    refine⟨⟨_,rfl,?_⟩,(aK.out.trans (hS2.mono (fun _ h=>by omega))).old (fun _ h=>Or.inl h)⟩
    exact HAu.out.keep hS2 (fun b hb=>by omega) (by omega)
theorem uz (F:Nat→Prop) (es:List Ex) (a:Option Addr) (c:Nat) (cl:Int) (w:World) (hL:Lex w F es a c) (hF:∀b,F b→b < w.heap.size) (hD:∀e∈es,Au.dp e≤1000000):
  Calls Tryz.prog 34 #[.slice a es.length c,.int .i64 cl] w (PZ w cl (Au.make es cl)):=by
 by_cases h:cl < 1∨24 < cl∨24 < es.length
 ·have e:Au.make es cl=.error 1:=by unfold Au.make;rw [if_pos h]
  rw [e]
  exact CG a es.length c cl w (by omega)
 ·obtain⟨n,rfl⟩:∃n:Nat,cl=(n:Int):=⟨cl.toNat,by omega⟩
  exact NQ (fun g cl p l fs vL w h1 h2 h3 h4 h5 h6 h7=>gM g cl p l fs vL w h1 h2 h3 h4 h5 h6 h7) F es a c n w hL hF hD (by omega) (by omega) (by omega)
end Go.Proofs.YtdlabakleldgaaaGreatDoor
namespace Go.Proofs.YtdlabakleldgaaaGreatDoor
open Go.RowKit Go.Maps
def fF (n c:Int):Int:=if n < 0∨c≤n then 0 else n
theorem CL {n c:Int} (h:0 < c):0≤fF n c∧fF n c < c:=by
 unfold fF
 split <;> omega
theorem Kj {n c:Int} (h:0≤n) (h1:n < c):fF n c=n:=by
 unfold fF
 rw [if_neg (by omega)]
theorem fw (n c:Int) (w:World):Calls Tryz.prog 24 #[.int .i64 n,.int .i64 c] w fun e w'=>e=.returned (.int .i64 (fF n c))∧w'=w:=by
 by_cases h0:n < 0
 ·have hw:fF n c=0:=if_pos (Or.inl h0)
  rw [hw]
  go_enter Tryz.func24,Tryz.ntmps24
  go_wp2_with fail
  go_ret
  exact⟨rfl,rfl⟩
 ·by_cases h1:c≤n
  ·have hw:fF n c=0:=if_pos (Or.inr h1)
   rw [hw]
   go_enter Tryz.func24,Tryz.ntmps24
   go_wp2_with fail
   go_ret
   exact⟨rfl,rfl⟩
  ·have hw:fF n c=n:=if_neg (by omega)
   rw [hw]
   go_enter Tryz.func24,Tryz.ntmps24
   go_wp2_with fail
   go_ret
   exact⟨rfl,rfl⟩
theorem kI (s:Int) (k:Nat) (h0:0≤s) (h1:s < 4294967296) (hk:k < 32) (w:World):Calls Tryz.prog 25 #[.int .u32 s,.int .i64 (k:Int)] w fun e w'=>e=.returned (.bool (decide (s / 2 ^ k % 2=1)))∧w'=w:=by
 have HQ:Hid ((bits .and .u32 (s / 2 ^ k) 1==1)=decide (s / 2 ^ k % 2=1)):=IY h0 h1 k
 go_enter Tryz.func25,Tryz.ntmps25
 go_wp2_with fail
 go_ret
 rw [HQ.out]
 exact⟨rfl,rfl⟩
theorem Kk (n:Nat) (hn:n≤24):IntKind.u32.wrap (1*2 ^ n)=2 ^ n:=by
 rw [IntKind.wrap_u32,Int.one_mul]
 exact (El ⟨n,by omega⟩).2.1
theorem RG {a:Act} {o:Oper} {t:Operand} {n:Nat} (ho:o.op=.binOp .shl 32 (.const (.int .u32 1)) t 3) (ht:a.eval t=.int .i64 (n:Int)) (hn:n≤24) (w:World):(execOp a.eval o).run Tryz.prog w=.ok (.value (.int .u32 (2 ^ n))) w:=by
 have hc:a.eval (.const (.int .u32 1))=.int .u32 1:=rfl
 unfold execOp
 rw [ho]
 simp only [ht,hc]
 simp [go_sem]
 have:=Kk n hn
 rw [Int.one_mul] at this
 exact this
theorem wp_put0 {P:Program} (w:World) {o:Oper} {a:Act} {K:Act→World→Prop} {Q:Exit→Act→World→Prop} (hd:o.dst=none) (m x v:Operand) (t:TypeId) (hop:o.op=Op.mapUpdate t m x v)
  (k e:TypeId) (L:Keyed P k) (ht:P.underlying t=some (.map k e)) (R:Value→Option (DataW Unit × List MemPlace)) (b n:Nat) (D:DataW Unit)
  (hm:a.eval m=.map (some b)) (hown:w.ownsMap P k R b n D) (hn:n < maxLen) (key val:Value) (kl:Lit) (hx:a.eval x=key) (hv:a.eval v=val) (hkey:keyOf P k key=some kl)
  (d:DataW Unit) (ps:List MemPlace) (hval:R val=some (d,ps))
  (h:∀w',w'.ownsMap P k R b (n+1) (D.put kl d)→w.grownBy w' (some b)→K a w'):o.wp P a w K Q:=
 wp_put w m x v t hop k e L ht R b n D hm hown hn key val kl hx hv hkey d ps hval (fun w' h1 h2=>by rw [hd];exact h w' h1 h2)
theorem Gj {P:Program} {md:Region.Mode} {ops:Array Oper} {Q:Exit→Act→World→Prop} {S:World→Prop} {fuel:Nat} {listed:Array Bool} {a:Act} {w:World} {i:Nat} {o:Oper} (ho:ops[i]?=some o) (hgd:o.guard=none) (hd:o.dst=none) (m x v:Operand) (t:TypeId) (hop:o.op=Op.mapUpdate t m x v)
  (k e:TypeId) (L:Keyed P k) (ht:P.underlying t=some (.map k e)) (R:Value→Option (DataW Unit × List MemPlace)) (b n:Nat) (D:DataW Unit)
  (hm:a.eval m=.map (some b)) (hown:w.ownsMap P k R b n D) (hn:n < maxLen) (key val:Value) (kl:Lit) (hx:a.eval x=key) (hv:a.eval v=val) (hkey:keyOf P k key=some kl)
  (d:DataW Unit) (ps:List MemPlace) (hval:R val=some (d,ps))
  (h:∀w',w'.ownsMap P k R b (n+1) (D.put kl d)→w.grownBy w' (some b)→S w'∧wpAnyH P md ops Q S fuel (listed.setIfInBounds i true) a w'):AllReadyH P md ops Q S fuel listed a w [i]:=
 AllReadyH.cons ho (fun K hK=>cK hgd (wp_put0 w hd m x v t hop k e L ht R b n D hm hown hn key val kl hx hv hkey d ps hval (fun w' h1 h2=>hK.out a w' (h w' h1 h2).1 (fun _=>(h w' h1 h2).2)))) AllReadyH.nil
theorem wV (n:Nat) (hn:n≤24):0≤(2:Int) ^ n∧(2:Int) ^ n < 4294967296:=by
 have h:=El ⟨n,by omega⟩
 have h1:1≤(2:Int) ^ n:=h.2.2.1
 have h2:(2:Int) ^ n≤16777216:=h.2.2.2
 generalize (2:Int) ^ n=b at h1 h2 ⊢
 omega
end Go.Proofs.YtdlabakleldgaaaGreatDoor
