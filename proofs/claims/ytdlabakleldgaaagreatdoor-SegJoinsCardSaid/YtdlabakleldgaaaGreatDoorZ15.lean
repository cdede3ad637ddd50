/- Rd Sts0 -/
import Derived.Test.YtdlabakleldgaaaGreatDoorZ00
import Derived.Test.YtdlabakleldgaaaGreatDoorZ12
import Derived.Test.YtdlabakleldgaaaGreatDoorZ14
import Derived.OwnWalk
set_option linter.unusedVariables false
set_option linter.unusedSimpArgs false
set_option maxRecDepth 100000
set_option maxHeartbeats 8000000
namespace Go.Proofs.YtdlabakleldgaaaGreatDoor
open Go.RowKit Go.Maps
open Rl (Ex)
def ni:List Nat→List Value
 | []=>[]
 | S::L=>(sC S).toList++ni L
theorem pI:∀(L:List Nat) (S:Nat),ni (L++[S])=ni L++(sC S).toList
 | [],S=>by simp [ni]
 | x::L,S=>by rw [List.cons_append,ni,pI L S,ni,List.append_assoc]
theorem uu:∀(L:List Nat) (i k S:Nat),L[i]?=some S→k < 4→(ni L)[i*4+k]?=some (.int .u64 (wd S k:Int))
 | x::L,0,k,S,h,hk=>by
  injection h with h
  subst h
  rw [ni,Nat.zero_mul,Nat.zero_add,List.getElem?_append_left (by show k < 4;exact hk),Array.getElem?_toList]
  exact zt x k hk
 | x::L,i+1,k,S,h,hk=>by
  rw [ni,List.getElem?_append_right (by show 4≤_;omega)]
  show (ni L)[(i+1)*4+k - 4]?=_
  rw [show (i+1)*4+k - 4=i*4+k by omega]
  exact uu L i k S (by simpa using h) hk
theorem Lw.row {w:World} {base:Nat} {v:Value} {Ls:List Nat} (h:w.ownsRow base 124 4 v Ls.length (ni Ls)):Lw w (fun b=>base≤b) v Ls:=by
 obtain⟨hl,⟨rfl,h0⟩ | ⟨g,cap,cur,rfl,h1,h2,h3,h4,h5,h6⟩⟩:=h
 ·refine⟨none,0,by rw [h0],by omega,fun i S hS=>?_⟩
  have:=(List.getElem?_eq_some_iff.1 hS).1
  omega
 ·refine⟨some ⟨g,0,none⟩,cap,rfl,h3,fun i S hS=>⟨g,rfl,h1,(Array.getElem?_eq_some_iff.1 h2).1,fun j hj=>?_⟩⟩
  have hi:=(List.getElem?_eq_some_iff.1 hS).1
  have:=uu Ls i j S hS hj
  rw [←h6,List.getElem?_take,if_pos (by omega),Array.getElem?_toList] at this
  rw [ae h2]
  exact this
theorem Ew:(Tryz.prog.info? 124).map (fun i=>(i.zero,i.size,i.bytes))=some (some (.agg #[.int .u64 0,.int .u64 0,.int .u64 0,.int .u64 0]),4,32):=by kernel_rfl
def PN (w:World) (g cl:Nat) (fs em:Nat) (Ls:List Nat) (R:Option (Au.Nd × Au.Pl)) (e:Ending) (w':World):Prop:=
 match R with
 | none=>e=.returned (.bool false)∧Only (fun h=>g≤h) w w'
 | some (x,p1)=>e=.returned (.bool true)∧(∃vL,mV w' g cl p1 (fs ||| x.first) vL (if x.none=true then em ||| 2 ^ Ls.length else em)∧w'.ownsRow (g+1) 124 4 vL (Ls.length+1) (ni (Ls++[x.last])))∧Only (fun h=>g≤h) w w'
theorem xZ (w:World) (S:Nat):∀j u,(sC S).toList[j]?=some u→(w.alloc (.cells (sC S) 124)).cell? ((⟨w.heap.size,0,none⟩:Addr).add j)=some u:=by
 intro j u hj
 rw [Addr.add_mid,Nat.zero_add,cell_of_row _ _ _ _ _ _ (heap_alloc_new _ _)]
 simpa using hj
theorem uw (S:Nat):∀u∈(sC S).toList,u.oneCell'=true:=fun u hu=>(Array.all_eq_true_iff_forall_mem.1 (xO S)) u (by simpa using hu)
theorem JK (F:Nat→Prop) (g cl:Nat) (p:Au.Pl) (fs:Nat) (vL:Value) (em:Nat) (Ls:List Nat) (ex:Ex) (v:Value) (w:World) (hP:mV w g cl p fs vL em) (hL:w.ownsRow (g+1) 124 4 vL Ls.length (ni Ls)) (hl:Ls.length < 24) (hem:em < 2 ^ 24) (hp:Au.rJ p) (hp2:p.sets.length≤200) (hcl:cl≤24) (he:Te w F ex v) (hF:∀b,F b→b < g) (hD:Au.dp ex≤1000000):
  Calls Tryz.prog 57 #[.pointer (some ⟨g,0,none⟩),v] w (PN w g cl fs em Ls (Au.node ex p)):=by
 have hlt:=hP.lt
 obtain⟨op,set,a,n,c,rfl⟩:∃op set a n c,v=.agg #[.int .u8 op,.int .u32 set,.slice a n c]:=by
  obtain⟨o,s,kids⟩:=ex
  obtain⟨a,cap,rfl,_⟩:=he.kids
  exact⟨o,s,a,_,cap,rfl⟩
 have hO:Only (fun _=>False) w (w.alloc (.cells #[.int .u8 op,.int .u32 set,.slice a n c] 117)):=(Only.refl _ _).alloc _
 have iA:Hid (Only (fun _=>False) w (w.alloc (.cells #[.int .u8 op,.int .u32 set,.slice a n c] 117))):=hO
 have HC:Hid (Calls Tryz.prog 78 #[.pointer (some ⟨g,0,none⟩),.agg #[.int .u8 op,.int .u32 set,.slice a n c]] (w.alloc (.cells #[.int .u8 op,.int .u32 set,.slice a n c] 117)) (PG (w.alloc (.cells #[.int .u8 op,.int .u32 set,.slice a n c] 117)) g cl fs vL em (Au.node ex p))):=pG F g cl p fs vL em ex _ _ (dN.only hP hO (fun h=>h)) hp hp2 hcl (Te.keep (Kp.only hO (fun _ _ h=>h)) (fun _ h=>h) ex _ he) (fun b hb=>⟨by have:=hF b hb;omega,by have:=hF b hb;simp;omega⟩) hD
 have HL:Hid (w.ownsRow (g+1) 124 4 vL Ls.length (ni Ls)):=hL
 have HM:Hid (em < 2 ^ 24):=hem
 obtain⟨lc,rfl⟩:∃lc:Option Addr × Nat,vL=.slice lc.1 Ls.length lc.2:=by
  obtain⟨a,c,h,_⟩:=Lw.row hL
  exact⟨(a,c),h⟩
 obtain⟨la,lc⟩:=lc
 simp only at HC HL
 clear hP hp hp2 he hF hD hO hL hem
 cases hn:Au.node ex p with
 | none=>
  have HN:Hid (Au.node ex p=none):=hn
  clear hn
  go_enter Tryz.func57,Tryz.ntmps57
  go_wp2_with (go_at_call 78;have hc:=HC.out;rw [HN.out] at hc;refine hc.mono ?_;clear hc;rintro e w1 ⟨rfl,ho1⟩;unfold xP)
  go_ret
  exact⟨rfl,((iA.out.mono (fun _ h=>h.elim)).trans (ho1.mono (fun _ h=>by omega))).alloc _⟩
 | some r=>
  obtain⟨⟨xe,xf,xl⟩,p1⟩:=r
  have HN:Hid (Au.node ex p=some (⟨xe,xf,xl⟩,p1)):=hn
  clear hn
  obtain⟨i9,h9,PO,zN,PQ⟩:=info_parts Ew
  cases xe
  ·go_enter Tryz.func57,Tryz.ntmps57
   go_wp2_with (go_at_call 78;have hc:=HC.out;rw [HN.out] at hc;refine hc.mono ?_;clear hc;rintro e w1 ⟨rfl,hp1,ho1⟩;have fJ:Hid (mV w1 g cl p1 fs (.slice la Ls.length lc) em):=hp1;have bu:Hid (Only (fun h=>g≤h) w w1):=(iA.out.mono (fun _ h=>h.elim)).trans (ho1.mono (fun _ h=>by omega));have JL:Hid (w1.ownsRow (g+1) 124 4 (.slice la Ls.length lc) Ls.length (ni Ls)):=ai (ai HL.out iA.out (fun _ _ h=>h)) ho1 (fun b hb=>by omega);clear hp1 ho1;unfold qJ dO)
   have ND:Hid (mV (w1.alloc (.cells (dO ⟨false,xf,xl⟩) 143)) g cl p1 fs (.slice la Ls.length lc) em):=fJ.out.only (P:=fun _=>False) ((Only.refl _ _).alloc _) (fun h=>h)
   have ib:Hid (ig (w1.alloc (.cells (dO ⟨false,xf,xl⟩) 143)) w1.heap.size ⟨false,xf,xl⟩):=heap_alloc_new _ _
   have PR:Hid ((w1.alloc (.cells (dO ⟨false,xf,xl⟩) 143)).ownsRow (g+1) 124 4 (.slice la Ls.length lc) Ls.length (ni Ls)):=JL.out.alloc _
   have HOW:Hid (Only (fun h=>g≤h) w (w1.alloc (.cells (dO ⟨false,xf,xl⟩) 143))):=bu.out.alloc _
   have hg1:g < w1.heap.size:=fJ.out.lt
   go_region_with (go_at_call 79;refine (dz g 898 fs xf _ 129 _ (ND.out.only (Only.refl (fun _=>False) _).drew (fun h=>h)) (gF _ _ _ _ _ _ _)).mono ?_;rintro e w2 ⟨rfl,hp2,ho2⟩;rw [rP] at hp2;have iC:Hid (dN w2 g cl p1.sets.length (Jl cl p1) p1.next (fs ||| xf) (.slice la Ls.length lc) em):=hp2;have HT2:Hid (ig w2 w1.heap.size ⟨false,xf,xl⟩):=(ib.out.only (Only.refl (fun _=>False) _).drew (fun h=>h)).only ho2 (by omega);have HL2:Hid (w2.ownsRow (g+1) 124 4 (.slice la Ls.length lc) Ls.length (ni Ls)):=ai (ai PR.out (Only.refl (fun _=>False) _).drew (fun _ _ h=>h)) ho2 (fun b hb=>by omega);have aK:Hid (Only (fun h=>g≤h) w w2):=(HOW.out.drew).trans (ho2.mono (fun _ h=>by omega));clear hp2 ho2)
   all_goals
    go_wp2_with fail
    have qQ:Hid (ig w2.drew w1.heap.size ⟨false,xf,xl⟩):=HT2.out.only (Only.refl (fun _=>False) _).drew (fun h=>h)
    have Cr:Hid (dN w2.drew g cl p1.sets.length (Jl cl p1) p1.next (fs ||| xf) (.slice la Ls.length lc) em):=iC.out.only (Only.refl (fun _=>False) _).drew (fun h=>h)
    have Cs:Hid (w2.drew.ownsRow (g+1) 124 4 (.slice la Ls.length lc) Ls.length (ni Ls)):=ai HL2.out (Only.refl (fun _=>False) _).drew (fun _ _ h=>h)
    have hg2:g < w2.heap.size:=iC.out.lt
    have Y7:=Cr.out.sG
    have U3:(w2.alloc (.cells #[.int .u64 (wd xl 0:Int),.int .u64 (wd xl 1:Int),.int .u64 (wd xl 2:Int),.int .u64 (wd xl 3:Int)] 124)).drew.cell? ⟨g,902,none⟩=some (.slice la Ls.length lc):=(iC.out.only (P:=fun _=>False) ((Only.refl _ _).alloc _).drew (fun h=>h)).sG
    have U4:(w2.alloc (.cells #[.int .u64 (wd xl 0:Int),.int .u64 (wd xl 1:Int),.int .u64 (wd xl 2:Int),.int .u64 (wd xl 3:Int)] 124)).cell? ⟨g,902,none⟩=some (.slice la Ls.length lc):=(iC.out.only (P:=fun _=>False) ((Only.refl _ _).alloc _) (fun h=>h)).sG
    have U5:(w2.drew.alloc (.cells #[.int .u64 (wd xl 0:Int),.int .u64 (wd xl 1:Int),.int .u64 (wd xl 2:Int),.int .u64 (wd xl 3:Int)] 124)).cell? ⟨g,902,none⟩=some (.slice la Ls.length lc):=(Cr.out.only (P:=fun _=>False) ((Only.refl _ _).alloc _) (fun h=>h)).sG
    refine wp_region_held_drew (S:=fun w'=>ig w' w1.heap.size ⟨false,xf,xl⟩) (by kernel_rfl) qQ.out (fun hHeld=>?_)
    refine bQ (i:=0) (v:=Value.pointer (some ⟨g,0,none⟩)) rfl ?_
    simp only [Act.put,zA,zB,zC]
    refine bQ (i:=1) (v:=Value.pointer (some ⟨g,0,none⟩)) rfl ?_
    simp only [Act.put,zA,zB,zC]
    refine bQ (i:=2) (v:=Value.pointer (some ⟨g,0,none⟩)) rfl ?_
    simp only [Act.put,zA,zB,zC]
    refine bQ (i:=3) (v:=Value.pointer (some ⟨g,902,none⟩)) rfl ?_
    simp only [Act.put,zA,zB,zC]
    refine bQ (i:=5) (v:=Value.pointer (some ⟨w1.heap.size,5,none⟩)) rfl ?_
    simp only [Act.put,zA,zB,zC]
    refine tk (i:=6) (v:=Value.agg #[.int .u64 (wd xl 0:Int),.int .u64 (wd xl 1:Int),.int .u64 (wd xl 2:Int),.int .u64 (wd xl 3:Int)]) rfl (Or.inl ⟨by rfl,fun w hSw=>by have q0:=hSw.l 0 (by decide);have q1:=hSw.l 1 (by decide);have q2:=hSw.l 2 (by decide);have q3:=hSw.l 3 (by decide);simp only [Nat.reduceAdd] at q0 q1 q2 q3;clear hSw;go_simp⟩) ?_
    simp only [Act.put,zA,zB,zC]
    refine wpAnyH_ready (rs:=[4,7]) (by kernel_rfl) (by simp) ?_
    refine AllReadyH.cons rfl (fun K hK=>?_) (AllReadyH.cons rfl (fun K hK=>?_) AllReadyH.nil)
    focus
     rw [if_pos (by rfl)]
     go_simp
     refine hK.out _ _ qQ.out (fun iK=>?_)
     clear hK
     refine wpAnyH_ready (rs:=[7]) (by kernel_rfl) (by simp) ?_
    rotate_left
    focus
     rw [if_pos (by rfl)]
     go_simp
     refine hK.out _ _ (qQ.out.only (P:=fun _=>False) ((Only.refl _ _).alloc _) (fun h=>h)) (fun iK=>?_)
     clear hK
     refine wpAnyH_ready (rs:=[4]) (by kernel_rfl) (by simp) ?_
    rotate_left
    all_goals
     refine AllReadyH.cons rfl (fun K hK=>?_) AllReadyH.nil
     rw [if_pos (by rfl)]
     go_simp
     refine hK.out _ _ (qQ.out.only (P:=fun _=>False) ((Only.refl _ _).alloc _) (fun h=>h)) (fun nQ=>?_)
     clear hK
     refine wpAnyH_ready (rs:=[8]) (by kernel_rfl) (by simp) ?_
     refine AllReadyH.cons rfl (fun K hK=>?_) AllReadyH.nil
     refine cK rfl (wp_append_at _ _ _ 127 rfl (g+1) 124 i9 _ 4 32 Tryz.underlying127 h9 PO zN PQ rfl (by decide) (.slice la Ls.length lc) Ls.length (ni Ls) rfl (Cs.out.alloc _) ⟨w2.heap.size,0,none⟩ 1 1 (sC xl).toList rfl rfl (xZ _ _) (uw _) (by unfold maxLen;omega) (by omega) (by simp;omega) ?_)
     intro v5 w5 hown5 hg5
     have sI:Only (fun h=>g+1≤h) (w2.drew.alloc (.cells (sC xl) 124)) w5:=(Only.refl _ _).grown hg5 (fun k hk=>(Cs.out.lt k hk).1)
     have Ct:dN w5 g cl p1.sets.length (Jl cl p1) p1.next (fs ||| xf) (.slice la Ls.length lc) em:=(Cr.out.only (P:=fun _=>False) ((Only.refl _ _).alloc _) (fun h=>h)).only sI (by omega)
     have PS:ig w5 w1.heap.size ⟨false,xf,xl⟩:=by
      refine (qQ.out.only (P:=fun _=>False) ((Only.refl _ _).alloc _) (fun h=>h)).only ((Only.refl (fun h=>(Value.slice la Ls.length lc).ownBlock=some h) _).grown hg5 (fun k hk=>hk)) (fun e=>?_)
      exact dU Cs.out 143 (by decide) _ e _ _ qQ.out
     obtain⟨gv,jU,rfl,Nv,Ny,Nz,_⟩:=ax hown5 (by omega)
     refine hK.out _ _ PS (fun gI=>?_)
     clear hK
     have d2:=Ct.sG
     have g2:=Ct.fz 902
     try simp only [Act.put,zA,zB,zC]
     refine bQ (i:=9) (v:=Value.pointer (some ⟨g,0,none⟩)) rfl ?_
     simp only [Act.put,zA,zB,zC]
     refine bQ (i:=10) (v:=Value.pointer (some ⟨g,902,none⟩)) rfl ?_
     simp only [Act.put,zA,zB,zC]
     refine wpAnyH_ready (rs:=[11]) (by kernel_rfl) (by simp) ?_
     refine AllReadyH.cons rfl (fun K hK=>?_) AllReadyH.nil
     rw [if_pos (by rfl)]
     go_simp
     refine hK.out _ _ (PS.only ((Only.refl (·=g) _).setCell (p:=⟨g,902,none⟩) rfl _) (by omega)) (fun gJ=>?_)
     clear hK
     refine wpAnyH_done (by kernel_rfl) ?_ _
     clear gI gJ
     go_wp2_with fail
     go_ret
     refine⟨rfl,⟨.slice (some ⟨gv,0,none⟩) (Ls.length+1) jU,?_,?_⟩,?_⟩
     ·have h6:=aa (k:=902) Ct (.slice (some ⟨gv,0,none⟩) (Ls.length+1) jU)
      rw [D_] at h6
      exact h6
     ·rw [pI]
      exact ai hown5 ((Only.refl (·=g) _).setCell (p:=⟨g,902,none⟩) rfl _) (fun b hb=>by omega)
     ·exact Only.setCell (S:=fun h=>g≤h) (((aK.out.drew).alloc _).trans (sI.mono (fun _ h=>by omega))) (p:=⟨g,902,none⟩) (Nat.le_refl g) _
  ·go_enter Tryz.func57,Tryz.ntmps57
   go_wp2_with (go_at_call 78;have hc:=HC.out;rw [HN.out] at hc;refine hc.mono ?_;clear hc;rintro e w1 ⟨rfl,hp1,ho1⟩;have fJ:Hid (mV w1 g cl p1 fs (.slice la Ls.length lc) em):=hp1;have bu:Hid (Only (fun h=>g≤h) w w1):=(iA.out.mono (fun _ h=>h.elim)).trans (ho1.mono (fun _ h=>by omega));have JL:Hid (w1.ownsRow (g+1) 124 4 (.slice la Ls.length lc) Ls.length (ni Ls)):=ai (ai HL.out iA.out (fun _ _ h=>h)) ho1 (fun b hb=>by omega);clear hp1 ho1;unfold qJ dO)
   have ND:Hid (mV (w1.alloc (.cells (dO ⟨true,xf,xl⟩) 143)) g cl p1 fs (.slice la Ls.length lc) em):=fJ.out.only (P:=fun _=>False) ((Only.refl _ _).alloc _) (fun h=>h)
   have ib:Hid (ig (w1.alloc (.cells (dO ⟨true,xf,xl⟩) 143)) w1.heap.size ⟨true,xf,xl⟩):=heap_alloc_new _ _
   have PR:Hid ((w1.alloc (.cells (dO ⟨true,xf,xl⟩) 143)).ownsRow (g+1) 124 4 (.slice la Ls.length lc) Ls.length (ni Ls)):=JL.out.alloc _
   have HOW:Hid (Only (fun h=>g≤h) w (w1.alloc (.cells (dO ⟨true,xf,xl⟩) 143))):=bu.out.alloc _
   have hg1:g < w1.heap.size:=fJ.out.lt
   unfold dO at ND ib PR HOW
   generalize w1.alloc (.cells #[.bool true,.int .u64 (wd xf 0:Int),.int .u64 (wd xf 1:Int),.int .u64 (wd xf 2:Int),.int .u64 (wd xf 3:Int),.int .u64 (wd xl 0:Int),.int .u64 (wd xl 1:Int),.int .u64 (wd xl 2:Int),.int .u64 (wd xl 3:Int)] 143)=Wa at ND ib PR HOW ⊢
   have Y8:=ND.out.sG
   have Y9:=ND.out.UB
   have Y_:=ND.out.fz 903
   have hor:=Jt HM.out hl
   rw [IntKind.wrap_u32] at hor
   have Re:Hid (bits .or .u32 (em:Int) (2 ^ Ls.length % 4294967296)=((em ||| 2 ^ Ls.length:Nat):Int)):=hor
   clear hor
   have hO3:Only (·=g) Wa (Wa.setCell ⟨g,903,none⟩ (.int .u32 (bits .or .u32 (em:Int) (2 ^ Ls.length % 4294967296)))).drew:=((Only.refl (·=g) _).setCell (p:=⟨g,903,none⟩) rfl _).drew
   have XN:Hid (mV (Wa.setCell ⟨g,903,none⟩ (.int .u32 (bits .or .u32 (em:Int) (2 ^ Ls.length % 4294967296)))).drew g cl p1 fs (.slice la Ls.length lc) (em ||| 2 ^ Ls.length)):=by
    rw [Re.out]
    have h:=aa (k:=903) ND.out (.int .u32 ((em ||| 2 ^ Ls.length:Nat):Int))
    rw [M4] at h
    exact h
   have x8:Hid (ig (Wa.setCell ⟨g,903,none⟩ (.int .u32 (bits .or .u32 (em:Int) (2 ^ Ls.length % 4294967296)))).drew w1.heap.size ⟨true,xf,xl⟩):=ib.out.only hO3 (by omega)
   have HLX:Hid ((Wa.setCell ⟨g,903,none⟩ (.int .u32 (bits .or .u32 (em:Int) (2 ^ Ls.length % 4294967296)))).drew.ownsRow (g+1) 124 4 (.slice la Ls.length lc) Ls.length (ni Ls)):=ai PR.out hO3 (fun b hb=>by omega)
   have XO:Hid (Only (fun h=>g≤h) w (Wa.setCell ⟨g,903,none⟩ (.int .u32 (bits .or .u32 (em:Int) (2 ^ Ls.length % 4294967296)))).drew):=HOW.out.trans (hO3.mono (fun _ h=>by omega))
   clear hO3
   go_region
   generalize (Wa.setCell ⟨g,903,none⟩ (.int .u32 (bits .or .u32 (em:Int) (2 ^ Ls.length % 4294967296)))).drew=Wb at XN x8 HLX XO ⊢
   clear ND ib PR HOW Y8 Y9 Y_
   have PR:=HLX
   have t1:Wb.cell? ⟨w1.heap.size,1,none⟩=some (.int .u64 (wd xf 0:Int)):=x8.out.f 0 (by decide)
   have t2:Wb.cell? ⟨w1.heap.size,2,none⟩=some (.int .u64 (wd xf 1:Int)):=x8.out.f 1 (by decide)
   have t3:Wb.cell? ⟨w1.heap.size,3,none⟩=some (.int .u64 (wd xf 2:Int)):=x8.out.f 2 (by decide)
   have t4:Wb.cell? ⟨w1.heap.size,4,none⟩=some (.int .u64 (wd xf 3:Int)):=x8.out.f 3 (by decide)
   go_wp2_with fail
   go_region_with (go_at_call 79;refine (dz g 898 fs xf _ 129 _ (XN.out.only (Only.refl (fun _=>False) _).drew (fun h=>h)) (gF _ _ _ _ _ _ _)).mono ?_;rintro e w2 ⟨rfl,hp2,ho2⟩;rw [rP] at hp2;have iC:Hid (dN w2 g cl p1.sets.length (Jl cl p1) p1.next (fs ||| xf) (.slice la Ls.length lc) (em ||| 2 ^ Ls.length)):=hp2;have HT2:Hid (ig w2 w1.heap.size ⟨true,xf,xl⟩):=(x8.out.only (Only.refl (fun _=>False) _).drew (fun h=>h)).only ho2 (by omega);have HL2:Hid (w2.ownsRow (g+1) 124 4 (.slice la Ls.length lc) Ls.length (ni Ls)):=ai (ai PR.out (Only.refl (fun _=>False) _).drew (fun _ _ h=>h)) ho2 (fun b hb=>by omega);have aK:Hid (Only (fun h=>g≤h) w w2):=(XO.out.drew).trans (ho2.mono (fun _ h=>by omega));clear hp2 ho2)
   all_goals
    go_wp2_with fail
    have qQ:Hid (ig w2.drew w1.heap.size ⟨true,xf,xl⟩):=HT2.out.only (Only.refl (fun _=>False) _).drew (fun h=>h)
    have Cr:Hid (dN w2.drew g cl p1.sets.length (Jl cl p1) p1.next (fs ||| xf) (.slice la Ls.length lc) (em ||| 2 ^ Ls.length)):=iC.out.only (Only.refl (fun _=>False) _).drew (fun h=>h)
    have Cs:Hid (w2.drew.ownsRow (g+1) 124 4 (.slice la Ls.length lc) Ls.length (ni Ls)):=ai HL2.out (Only.refl (fun _=>False) _).drew (fun _ _ h=>h)
    have hg2:g < w2.heap.size:=iC.out.lt
    have Y7:=Cr.out.sG
    have U3:(w2.alloc (.cells #[.int .u64 (wd xl 0:Int),.int .u64 (wd xl 1:Int),.int .u64 (wd xl 2:Int),.int .u64 (wd xl 3:Int)] 124)).drew.cell? ⟨g,902,none⟩=some (.slice la Ls.length lc):=(iC.out.only (P:=fun _=>False) ((Only.refl _ _).alloc _).drew (fun h=>h)).sG
    have U4:(w2.alloc (.cells #[.int .u64 (wd xl 0:Int),.int .u64 (wd xl 1:Int),.int .u64 (wd xl 2:Int),.int .u64 (wd xl 3:Int)] 124)).cell? ⟨g,902,none⟩=some (.slice la Ls.length lc):=(iC.out.only (P:=fun _=>False) ((Only.refl _ _).alloc _) (fun h=>h)).sG
    have U5:(w2.drew.alloc (.cells #[.int .u64 (wd xl 0:Int),.int .u64 (wd xl 1:Int),.int .u64 (wd xl 2:Int),.int .u64 (wd xl 3:Int)] 124)).cell? ⟨g,902,none⟩=some (.slice la Ls.length lc):=(Cr.out.only (P:=fun _=>False) ((Only.refl _ _).alloc _) (fun h=>h)).sG
    refine wp_region_held_drew (S:=fun w'=>ig w' w1.heap.size ⟨true,xf,xl⟩) (by kernel_rfl) qQ.out (fun hHeld=>?_)
    refine bQ (i:=0) (v:=Value.pointer (some ⟨g,0,none⟩)) rfl ?_
    simp only [Act.put,zA,zB,zC]
    refine bQ (i:=1) (v:=Value.pointer (some ⟨g,0,none⟩)) rfl ?_
    simp only [Act.put,zA,zB,zC]
    refine bQ (i:=2) (v:=Value.pointer (some ⟨g,0,none⟩)) rfl ?_
    simp only [Act.put,zA,zB,zC]
    refine bQ (i:=3) (v:=Value.pointer (some ⟨g,902,none⟩)) rfl ?_
    simp only [Act.put,zA,zB,zC]
    refine bQ (i:=5) (v:=Value.pointer (some ⟨w1.heap.size,5,none⟩)) rfl ?_
    simp only [Act.put,zA,zB,zC]
    refine tk (i:=6) (v:=Value.agg #[.int .u64 (wd xl 0:Int),.int .u64 (wd xl 1:Int),.int .u64 (wd xl 2:Int),.int .u64 (wd xl 3:Int)]) rfl (Or.inl ⟨by rfl,fun w hSw=>by have q0:=hSw.l 0 (by decide);have q1:=hSw.l 1 (by decide);have q2:=hSw.l 2 (by decide);have q3:=hSw.l 3 (by decide);simp only [Nat.reduceAdd] at q0 q1 q2 q3;clear hSw;go_simp⟩) ?_
    simp only [Act.put,zA,zB,zC]
    refine wpAnyH_ready (rs:=[4,7]) (by kernel_rfl) (by simp) ?_
    refine AllReadyH.cons rfl (fun K hK=>?_) (AllReadyH.cons rfl (fun K hK=>?_) AllReadyH.nil)
    focus
     rw [if_pos (by rfl)]
     go_simp
     refine hK.out _ _ qQ.out (fun iK=>?_)
     clear hK
     refine wpAnyH_ready (rs:=[7]) (by kernel_rfl) (by simp) ?_
    rotate_left
    focus
     rw [if_pos (by rfl)]
     go_simp
     refine hK.out _ _ (qQ.out.only (P:=fun _=>False) ((Only.refl _ _).alloc _) (fun h=>h)) (fun iK=>?_)
     clear hK
     refine wpAnyH_ready (rs:=[4]) (by kernel_rfl) (by simp) ?_
    rotate_left
    all_goals
     refine AllReadyH.cons rfl (fun K hK=>?_) AllReadyH.nil
     rw [if_pos (by rfl)]
     go_simp
     refine hK.out _ _ (qQ.out.only (P:=fun _=>False) ((Only.refl _ _).alloc _) (fun h=>h)) (fun nQ=>?_)
     clear hK
     refine wpAnyH_ready (rs:=[8]) (by kernel_rfl) (by simp) ?_
     refine AllReadyH.cons rfl (fun K hK=>?_) AllReadyH.nil
     refine cK rfl (wp_append_at _ _ _ 127 rfl (g+1) 124 i9 _ 4 32 Tryz.underlying127 h9 PO zN PQ rfl (by decide) (.slice la Ls.length lc) Ls.length (ni Ls) rfl (Cs.out.alloc _) ⟨w2.heap.size,0,none⟩ 1 1 (sC xl).toList rfl rfl (xZ _ _) (uw _) (by unfold maxLen;omega) (by omega) (by simp;omega) ?_)
     intro v5 w5 hown5 hg5
     have sI:Only (fun h=>g+1≤h) (w2.drew.alloc (.cells (sC xl) 124)) w5:=(Only.refl _ _).grown hg5 (fun k hk=>(Cs.out.lt k hk).1)
     have Ct:dN w5 g cl p1.sets.length (Jl cl p1) p1.next (fs ||| xf) (.slice la Ls.length lc) (em ||| 2 ^ Ls.length):=(Cr.out.only (P:=fun _=>False) ((Only.refl _ _).alloc _) (fun h=>h)).only sI (by omega)
     have PS:ig w5 w1.heap.size ⟨true,xf,xl⟩:=by
      refine (qQ.out.only (P:=fun _=>False) ((Only.refl _ _).alloc _) (fun h=>h)).only ((Only.refl (fun h=>(Value.slice la Ls.length lc).ownBlock=some h) _).grown hg5 (fun k hk=>hk)) (fun e=>?_)
      exact dU Cs.out 143 (by decide) _ e _ _ qQ.out
     obtain⟨gv,jU,rfl,Nv,Ny,Nz,_⟩:=ax hown5 (by omega)
     refine hK.out _ _ PS (fun gI=>?_)
     clear hK
     have d2:=Ct.sG
     have g2:=Ct.fz 902
     try simp only [Act.put,zA,zB,zC]
     refine bQ (i:=9) (v:=Value.pointer (some ⟨g,0,none⟩)) rfl ?_
     simp only [Act.put,zA,zB,zC]
     refine bQ (i:=10) (v:=Value.pointer (some ⟨g,902,none⟩)) rfl ?_
     simp only [Act.put,zA,zB,zC]
     refine wpAnyH_ready (rs:=[11]) (by kernel_rfl) (by simp) ?_
     refine AllReadyH.cons rfl (fun K hK=>?_) AllReadyH.nil
     rw [if_pos (by rfl)]
     go_simp
     refine hK.out _ _ (PS.only ((Only.refl (·=g) _).setCell (p:=⟨g,902,none⟩) rfl _) (by omega)) (fun gJ=>?_)
     clear hK
     refine wpAnyH_done (by kernel_rfl) ?_ _
     clear gI gJ
     go_wp2_with fail
     go_ret
     refine⟨rfl,⟨.slice (some ⟨gv,0,none⟩) (Ls.length+1) jU,?_,?_⟩,?_⟩
     ·have h6:=aa (k:=902) Ct (.slice (some ⟨gv,0,none⟩) (Ls.length+1) jU)
      rw [D_] at h6
      exact h6
     ·rw [pI]
      exact ai hown5 ((Only.refl (·=g) _).setCell (p:=⟨g,902,none⟩) rfl _) (fun b hb=>by omega)
     ·exact Only.setCell (S:=fun h=>g≤h) (((aK.out.drew).alloc _).trans (sI.mono (fun _ h=>by omega))) (p:=⟨g,902,none⟩) (Nat.le_refl g) _
end Go.Proofs.YtdlabakleldgaaaGreatDoor
namespace Go.Proofs.YtdlabakleldgaaaGreatDoor
open Go.RowKit Go.Maps
def Ue (D:DataW Unit) (B:List Nat):Prop:=∀S,S < 2 ^ 256→D.atKey (kc Tryz.prog S) (.lit (.int .i64 0))=.lit (.int .i64 (if S∈B then (B.idxOf S:Int) else 0))∧Maps.has D (kc Tryz.prog S)=decide (S∈B)
theorem Ey {D:DataW Unit} {B:List Nat} {S:Nat} (hm:IsMap D) (h:Ue D B) (hS:S < 2 ^ 256) (hn:S∉B):Ue (D.put (kc Tryz.prog S) (.lit (.int .i64 (B.length:Int)))) (B++[S]):=by
 intro T hT
 have hk:WideAt.IsKeyLit (kc Tryz.prog S):=tY.key (iI S)
 by_cases e:T=S
 ·subst e
  refine⟨?_,?_⟩
  ·rw [atKey_put_same hm hk,if_pos (by simp),List.idxOf_append,if_neg hn]
   simp
  ·rw [has_put_same hm hk]
   simp
 ·have hne:kc Tryz.prog T≠kc Tryz.prog S:=fun h'=>e (IU hT hS h')
  refine⟨?_,?_⟩
  ·rw [atKey_put_other hne,(h T hT).1]
   by_cases hB:T∈B
   ·rw [if_pos hB,if_pos (by simp [hB]),List.idxOf_append,if_pos hB]
   ·rw [if_neg hB,if_neg (by simp [hB,e])]
  ·rw [has_put_other hne,(h T hT).2]
   simp [e]
theorem wpList_insert_own {H:Type} {P:Program} (w:World) {ops:Array Oper} {rest:List Oper} {o:Oper} {a:Act} {Q:Exit→Act→World→Prop}
  (hg:o.guard=none) (m x v:Operand) (t:TypeId) (hop:o.op=Op.insert t m x v)
  (k e:TypeId) (K:Keyed P k) (ht:P.underlying t=some (.map k e)) (R:Value→Option (DataW H × List MemPlace)) (b n:Nat) (D:DataW H)
  (hm:a.eval m=.map (some b)) (hown:w.ownsMap P k R b n D) (hn:n < maxLen) (key val:Value) (kl:Lit) (hx:a.eval x=key) (hv:a.eval v=val) (hkey:keyOf P k key=some kl)
  (d:DataW H) (ps:List MemPlace) (hval:R val=some (d,ps))
  (hK:∀w',w'.ownsMap P k R b (n+1) (D.put kl d)→w.grownBy w' (some b)→wpList P ops Q rest (a.put o.dst undef) w'):
  wpList P ops Q (o::rest) a w:=by
 refine wpList_plain hg fun K' hK'=>?_
 obtain⟨w',hrun,r1,r2⟩:=hown.update K ht hn hkey hval
 unfold Oper.wp
 simp [execOp,hop,hm,hx,hv,hrun,Result.andThen]
 exact hK' _ _ (hK w' r1 r2)
def Ez (L:List Nat) (cl:Nat):Array Value:=Array.ofFn (n:=cl) fun j=>.int .i64 ((L[j.val]?.getD 0:Nat):Int)
theorem kG (L:List Nat) (cl:Nat):(Ez L cl).size=cl:=by simp [Ez]
theorem qR (L:List Nat) (cl j:Nat) (h:j < cl):(Ez L cl)[j]?=some (.int .i64 ((L[j]?.getD 0:Nat):Int)):=by
 rw [Array.getElem?_eq_getElem (by rw [kG];exact h)]
 simp [Ez]
theorem EA (L:List Nat) (cl t:Nat) (h:L.length < cl):(Ez L cl).setIfInBounds L.length (.int .i64 (t:Int))=Ez (L++[t]) cl:=by
 apply Array.ext_getElem?
 intro j
 rw [Array.getElem?_setIfInBounds,kG]
 by_cases hj:j < cl
 ·rw [qR _ _ _ hj,qR _ _ _ hj]
  by_cases e:L.length=j
  ·subst e
   rw [if_pos rfl,if_pos hj]
   simp
  ·rw [if_neg e]
   by_cases h1:j < L.length
   ·rw [List.getElem?_append_left h1]
   ·rw [List.getElem?_eq_none (by omega),List.getElem?_eq_none (by simp;omega)]
 ·rw [if_neg (by omega),Array.getElem?_eq_none (by rw [kG];omega),Array.getElem?_eq_none (by rw [kG];omega)]
theorem JM {w:World} {base g cl:Nat} (h:w.ownsRow base 3 1 (.slice (some ⟨g,0,none⟩) cl cl) cl (madeCells (Value.int .i64 0).cells (cl*1)).toList):base≤g∧w.heap[g]?=some (.cells (Ez [] cl) 3 (0,0)):=by
 obtain⟨_,⟨hv,_⟩ | ⟨g',cap,cur,hv,h1,h2,h3,h4,h5,h6⟩⟩:=h
 ·cases hv
 ·injection hv with e1 e2 e3
  injection e1 with e1
  injection e1 with e1
  subst e1 e3
  refine⟨h1,?_⟩
  rw [h2]
  congr 2
  rw [List.take_of_length_le (by rw [Array.length_toList];omega)] at h6
  apply Array.ext_getElem?
  intro j
  have e:cur[j]?=(madeCells (Value.int .i64 0).cells (cl*1))[j]?:=by rw [←Array.getElem?_toList,h6,Array.getElem?_toList]
  rw [e,Nat.mul_one]
  by_cases hj:j < cl
  ·rw [qR _ _ _ hj]
   unfold madeCells
   rw [Array.getElem?_map,Array.getElem?_range,if_pos hj]
   show some ((Value.int .i64 0).cells[j %(Value.int .i64 0).cells.size]!)=_
   have e1:(Value.int .i64 0).cells.size=1:=rfl
   rw [e1,Nat.mod_one]
   rfl
  ·rw [Array.getElem?_eq_none (by rw [size_madeCells];omega),Array.getElem?_eq_none (by rw [kG];omega)]
def JN (cl:Nat) (r:Nat × List Nat):Value:=.slice (some ⟨r.1,0,none⟩) cl cl
def jw (n:Nat):Value:=.int .u32 (n:Int)
def JO (W:World) (lo cl:Nat) (rows:List (Nat × List Nat)):Prop:=∀r∈rows,lo≤r.1∧W.heap[r.1]?=some (.cells (Ez r.2 cl) 3 (0,0))∧r.2.length=cl
structure mI (w W:World) (g cl:Nat) (p:Au.Pl) (fs:Nat) (vL:Value) (em:Nat) (Ls found:List Nat) (fv:Value) (rows:List (Nat × List Nat)) (o:List Nat) (vN vO:Value):Prop where
 pl:mV W g cl p fs vL em
 gl:g < w.heap.size
 lw:Lw W (fun b=>b < w.heap.size) vL Ls
 mp:∃D:DataW Unit,W.ownsMap Tryz.prog 124 (plainElem Tryz.prog 3) (w.heap.size+1+1) found.length D∧Ue D found
 fd:W.ownsRow (w.heap.size+1+1+1) 124 4 fv found.length (ni found)
 rb:W.heap[w.heap.size]?=some (.cells #[.slice none 0 0,.slice none 0 0] 71 (0,0))
 ab:W.heap[w.heap.size+1]?=some (.cells #[vN,vO] 71 (0,0))
 nx:W.ownsRow (w.heap.size+1+1+1) 28 1 vN rows.length (rows.map (JN cl))
 ot:W.ownsRow (w.heap.size+1+1+1) 32 1 vO o.length (o.map jw)
 ro:JO W (w.heap.size+1+1+1) cl rows
 on:Only (fun h=>w.heap.size≤h) w W
theorem fQ {W W':World} {k:TypeId} {R:Value→Option (DataW Unit × List MemPlace)} {b n:Nat} {D:DataW Unit} {P:Nat→Prop} (h:W.ownsMap Tryz.prog k R b n D) (ho:Only P W W') (hn:¬ P b):W'.ownsMap Tryz.prog k R b n D:=by
 unfold World.ownsMap at h ⊢
 obtain⟨es,c,h1,h2⟩:=h
 exact⟨es,c,(ho.block b (Array.getElem?_eq_some_iff.1 h1).1 hn).trans h1,h2⟩
theorem own_ne {W:World} {base e size n:Nat} {v:Value} {xs:List Value} (h:W.ownsRow base e size v n xs) {q:Nat} {cs:Array Value} {t:TypeId} {z:Nat × Nat} (hq:W.heap[q]?=some (.cells cs t z)) (ht:t≠e):v.ownBlock≠some q:=fun hv=>dU h t ht q hv cs z hq
theorem bq {W W':World} {base e size n:Nat} {v:Value} {xs:List Value} {P:Nat→Prop} (h:W.ownsRow base e size v n xs) (ho:Only P W W') (hP:∀q,v.ownBlock=some q→¬ P q):W'.ownsRow base e size v n xs:=by
 obtain⟨hl,h | ⟨g,cap,cur,hv,hb,hh,h1,h2,h3,h4⟩⟩:=h
 ·exact⟨hl,Or.inl h⟩
 ·refine⟨hl,Or.inr ⟨g,cap,cur,hv,hb,?_,h1,h2,h3,h4⟩⟩
  rw [ho.block g (Array.getElem?_eq_some_iff.1 hh).1 (hP g (by rw [hv];rfl))]
  exact hh
theorem mI.keep {w W W':World} {g cl:Nat} {p:Au.Pl} {fs:Nat} {vL:Value} {em:Nat} {Ls found:List Nat} {fv:Value} {rows:List (Nat × List Nat)} {o:List Nat} {vN vO:Value} (h:mI w W g cl p fs vL em Ls found fv rows o vN vO) {P:Nat→Prop} (ho:Only P W W')
  (h1:∀b,P b→w.heap.size+1+1+1≤b) (h2:∀q,fv.ownBlock=some q→¬ P q) (h3:∀q,vN.ownBlock=some q→¬ P q) (h4:∀q,vO.ownBlock=some q→¬ P q) (h5:∀r∈rows,¬ P r.1):mI w W' g cl p fs vL em Ls found fv rows o vN vO:=by
 obtain⟨a1,a2,a3,⟨D,a4,a5⟩,a6,a7,a8,a9,EB,JP,a12⟩:=h
 have hlow:∀b,b < w.heap.size+1+1+1→¬ P b:=fun b hb hp=>by have:=h1 b hp;omega
 refine⟨a1.only ho (hlow _ (by omega)),a2,a3.only ho (fun b hb=>hlow b (by omega)),⟨D,fQ a4 ho (hlow _ (by omega)),a5⟩,bq a6 ho h2,?_,?_,bq a9 ho h3,bq EB ho h4,?_,a12.trans (ho.mono (fun b hb=>by have:=h1 b hb;omega))⟩
 ·exact (ho.block _ (Array.getElem?_eq_some_iff.1 a7).1 (hlow _ (by omega))).trans a7
 ·exact (ho.block _ (Array.getElem?_eq_some_iff.1 a8).1 (hlow _ (by omega))).trans a8
 ·intro r hr
  obtain⟨b1,b2,b3⟩:=JP r hr
  exact⟨b1,(ho.block _ (Array.getElem?_eq_some_iff.1 b2).1 (h5 r hr)).trans b2,b3⟩
theorem mI.gK {w W W':World} {g cl:Nat} {p:Au.Pl} {fs:Nat} {vL:Value} {em:Nat} {Ls found:List Nat} {fv:Value} {rows:List (Nat × List Nat)} {o:List Nat} {vN vO:Value} (h:mI w W g cl p fs vL em Ls found fv rows o vN vO) (ho:Only (fun _=>False) W W'):mI w W' g cl p fs vL em Ls found fv rows o vN vO:=
 h.keep ho (fun _ h=>h.elim) (fun _ _ h=>h) (fun _ _ h=>h) (fun _ _ h=>h) (fun _ _ h=>h)
theorem mI.ways {w W W':World} {g cl:Nat} {p:Au.Pl} {fs:Nat} {vL:Value} {em:Nat} {Ls found:List Nat} {fv:Value} {rows:List (Nat × List Nat)} {o:List Nat} {vN vO:Value} (h:mI w W g cl p fs vL em Ls found fv rows o vN vO) {q:Nat} {cs:Array Value} {t:TypeId} (hq:W.heap[q]?=some (.cells cs t (0,0))) (ht1:t≠124) (ht2:t≠28) (ht3:t≠32) (hr:∀r∈rows,r.1≠q) (hlo:w.heap.size+1+1+1≤q) (ho:Only (·=q) W W'):mI w W' g cl p fs vL em Ls found fv rows o vN vO:=
 h.keep ho (fun b hb=>by omega) (fun b hb e=>own_ne h.fd hq ht1 (by rw [hb,e])) (fun b hb e=>own_ne h.nx hq ht2 (by rw [hb,e])) (fun b hb e=>own_ne h.ot hq ht3 (by rw [hb,e])) (fun r hrr e=>hr r hrr e)
theorem mI.more {w W W1 W2:World} {g cl:Nat} {p:Au.Pl} {fs:Nat} {vL:Value} {em:Nat} {Ls found:List Nat} {fv fv':Value} {rows:List (Nat × List Nat)} {o:List Nat} {vN vO:Value} (h:mI w W g cl p fs vL em Ls found fv rows o vN vO) {S:Nat} (hS:S < 2 ^ 256) (hn:S∉found) {D:DataW Unit}
  (hK:Ue D found) (hI:IsMap D) (hm:W1.ownsMap Tryz.prog 124 (plainElem Tryz.prog 3) (w.heap.size+1+1) (found.length+1) (D.put (kc Tryz.prog S) (.lit (.int .i64 (found.length:Int))))) (ho1:Only (·=w.heap.size+1+1) W W1)
  (hf:W2.ownsRow (w.heap.size+1+1+1) 124 4 fv' (found.length+1) (ni found++(sC S).toList)) (ho2:Only (fun q=>fv.ownBlock=some q) W1 W2):mI w W2 g cl p fs vL em Ls (found++[S]) fv' rows o vN vO:=by
 obtain⟨a1,a2,a3,_,a6,a7,a8,a9,EB,JP,a12⟩:=h
 have hfl:∀q,fv.ownBlock=some q→w.heap.size+1+1+1≤q:=fun q hq=>(a6.lt q hq).1
 have hlow:∀b,b < w.heap.size+1+1+1→¬ fv.ownBlock=some b:=fun b hb hp=>by have:=hfl b hp;omega
 have el:(found++[S]).length=found.length+1:=by simp
 have hO:Only (fun q=>q=w.heap.size+1+1∨fv.ownBlock=some q) W W2:=(ho1.mono (fun _ h=>Or.inl h)).trans (ho2.mono (fun _ h=>Or.inr h))
 refine⟨a1.only hO ?_,a2,a3.only hO ?_,⟨_,fQ (by rw [el];exact hm) ho2 (hlow _ (by omega)),Ey hI hK hS hn⟩,by rw [el,pI];exact hf,?_,?_,bq a9 hO ?_,bq EB hO ?_,?_,a12.trans (hO.mono ?_)⟩
 ·intro e;rcases e with e | e
  ·omega
  ·exact hlow g (by omega) e
 ·intro b hb e;rcases e with e | e
  ·omega
  ·exact hlow b (by omega) e
 ·refine (hO.block _ (Array.getElem?_eq_some_iff.1 a7).1 ?_).trans a7
  intro e;rcases e with e | e
  ·omega
  ·exact hlow _ (by omega) e
 ·refine (hO.block _ (Array.getElem?_eq_some_iff.1 a8).1 ?_).trans a8
  intro e;rcases e with e | e
  ·omega
  ·exact hlow _ (by omega) e
 ·intro q hq e
  rcases e with e | e
  ·have:=(a9.lt q hq).1;omega
  ·obtain⟨_,⟨hv,_⟩ | ⟨g',cap,cur,hv,_,hh,_⟩⟩:=a9
   ·rw [hv] at hq;cases hq
   ·rw [hv] at hq
    injection hq with hq
    simp only at hq
    subst hq
    exact own_ne a6 hh (by decide) e
 ·intro q hq e
  rcases e with e | e
  ·have:=(EB.lt q hq).1;omega
  ·obtain⟨_,⟨hv,_⟩ | ⟨g',cap,cur,hv,_,hh,_⟩⟩:=EB
   ·rw [hv] at hq;cases hq
   ·rw [hv] at hq
    injection hq with hq
    simp only at hq
    subst hq
    exact own_ne a6 hh (by decide) e
 ·intro r hr
  obtain⟨b1,b2,b3⟩:=JP r hr
  refine⟨b1,(hO.block _ (Array.getElem?_eq_some_iff.1 b2).1 ?_).trans b2,b3⟩
  intro e;rcases e with e | e
  ·omega
  ·exact own_ne a6 b2 (by decide) e
 ·intro b hb
  rcases hb with e | e
  ·omega
  ·have:=hfl b e;omega
end Go.Proofs.YtdlabakleldgaaaGreatDoor
