/- Sg14 -/
import Derived.Test.YtdlabakleldgaaaGreatDoorZ00
import Derived.Test.YtdlabakleldgaaaGreatDoorZ38
import Derived.Deep.RegionHeld3
set_option linter.unusedVariables false
set_option linter.unusedSimpArgs false
set_option maxRecDepth 100000
set_option maxHeartbeats 8000000
namespace Go.Proofs.YtdlabakleldgaaaGreatDoor
open Go.RowKit Go.Maps
open Rl (Ex)
namespace L
theorem G8 (b o m c:Nat) (D:List Nat) (w:World) (hm:m≤100000) (hD:D.length=m) (hc:∀(j x:Nat),D[j]?=some x→w.cell? ⟨b,o+j,none⟩=some (.int .i64 (x:Int))):
  Calls Tryz.prog 26 #[.slice (some ⟨b,o,none⟩) m c] w fun e w'=>∃g cap,e=.returned (.slice (some ⟨g,0,none⟩) m cap)∧w'.ownsRow w.heap.size 3 1 (.slice (some ⟨g,0,none⟩) m cap) m (nums D).toList∧Only (fun _=>False) w w':=by
 obtain⟨i3,g3,Iq,Ir,Iu⟩:=info_parts info3
 have HC:=zH hc
 have HD:=zH hD
 clear hc hD
 have HOWN:Hid ((w.alloc (.cells #[] 3)).ownsRow w.heap.size 3 1 (.slice (some ⟨w.heap.size,0,none⟩) 0 0) 0 []):=⟨rfl,Or.inr ⟨w.heap.size,0,#[],rfl,Nat.le_refl _,heap_alloc_new w _,Nat.le_refl _,by unfold maxLen;omega,rfl,rfl⟩⟩
 have HN:Hid (∀(j:Nat) (u:Value),(nums D).toList[j]?=some u→(w.alloc (.cells #[] 3)).cell? ((⟨b,o,none⟩:Addr).add j)=some u):=fun j u hj=>by
  rw [Array.getElem?_toList,eY] at hj
  cases hx:D[j]? with
  | none=>rw [hx] at hj;cases hj
  | some x=>
   rw [hx] at hj
   injection hj with hj
   subst hj
   have h1:=HC.out j x hx
   have hb:=World.block_lt_of_cell? w _ h1
   rw [Addr.add_mid]
   exact (World.cell?_of_block (a:=⟨b,o+j,none⟩) (Below.heap_alloc _ _ _ hb)).trans h1
 have hq:∀W,(binOp .eql 28 (.slice (some ⟨b,o,none⟩) m c) (.slice none 0 0)).run Tryz.prog W=.ok (.bool false) W:=fun W=>Lib.run_eql_slice_nil W 28 3 (some ⟨b,o,none⟩) m c 0 0 Tryz.underlying28
 go_enter Tryz.func26,Tryz.ntmps26
 go_wp2_with (first |(at_builtin;refine wpList_append_own_at _ rfl _ _ 28 rfl w.heap.size 3 i3 (.int .i64 0) 1 8 Tryz.underlying28 g3 Iq Ir Iu rfl (by decide) (.slice (some ⟨w.heap.size,0,none⟩) 0 0) 0 [] rfl HOWN.out ⟨b,o,none⟩ m c (nums D).toList rfl (by rw [Array.length_toList,l9,HD.out];omega) HN.out (fun u hu=>by unfold nums at hu;simp at hu;obtain⟨x,_,rfl⟩:=hu;rfl) (by unfold maxLen;omega) (by omega) (by simp) ?_;intro v3 w3 ho3 hg3 WM yG;have HNN:Hid (v3≠.slice none 0 0):=(fun e=>by have h:=(WM.1 e).1;cases h);have fK:Hid (w3.ownsRow w.heap.size 3 1 v3 m (nums D).toList):=(by rw [Nat.zero_add,List.nil_append] at ho3;exact ho3);have GK:Hid (Only (fun _=>False) w w3):=((((Only.refl (fun b=>w.heap.size≤b) w).alloc _).grown hg3 (fun q hq=>by injection hq with hq;subst hq;exact Nat.le_refl _)).old (fun g hg=>Or.inl hg));clear ho3 hg3 yG WM))
 go_ret
 obtain⟨_,⟨hv,_⟩ | ⟨g,cap,_,rfl,_⟩⟩:=fK.out
 ·exact absurd hv HNN.out
 ·exact⟨g,cap,rfl,fK.out,GK.out⟩
end L
def stt (rows:List (List Nat)) (C:List Int) (k:Nat):Nat:=(0::Au.runs rows 0 C)[k]?.getD 0
theorem DD (rows:List (List Nat)) (C:List Int) (k:Nat) (h:k≤C.length):(0::Au.runs rows 0 C)[k]?=some (stt rows C k):=by
 have e:=List.getElem?_eq_getElem (l:=0::Au.runs rows 0 C) (i:=k) (by rw [List.length_cons,Au.pV];omega)
 unfold stt
 rw [e]
 rfl
def bx (aD:List (List Nat)) (aA:List Nat) (aH:List (List Nat)) (aG:List Nat) (C:List Int) (i:Nat):Nat:=L.Hm.oR aA (stt aD C i) &&& L.Hm.oR aG (stt aH C.reverse (C.length - i))
def IC (D:List Int) (aD:List (List Nat)) (aA:List Nat) (aH:List (List Nat)) (aG:List Nat) (C:List Int):List Int:=(List.range C.length).map (fun i=>OG D (bx aD aA aH aG C i))
theorem E5 (D:List Int) (aD:List (List Nat)) (aA:List Nat) (aH:List (List Nat)) (aG:List Nat) (C:List Int):(IC D aD aA aH aG C).length=C.length:=by simp [IC]
theorem Tt (D:List Int) (aD:List (List Nat)) (aA:List Nat) (aH:List (List Nat)) (aG:List Nat) (C:List Int) (i:Nat) (h:i < C.length):(IC D aD aA aH aG C)[i]?=some (OG D (bx aD aA aH aG C i)):=by
 unfold IC
 rw [List.getElem?_map,List.getElem?_range h]
 rfl
theorem Lp {rows:List (List Nat)} {outs:List Nat} {k:Nat} (h:L.Hm.Ok rows outs k) (C:List Int) (hC:∀c∈C,0≤c∧c <(k:Int)) (i:Nat) (hi:i≤C.length):stt rows C i < rows.length:=by
 obtain⟨_,hs⟩:=G7 (DD rows C i hi)
 rw [hs]
 refine h.fold _ (fun c hc=>?_) 0 h.pos
 obtain⟨x,hx,rfl⟩:=List.mem_map.1 hc
 have:=hC x (List.mem_of_mem_take hx)
 omega
theorem Bc (mb:Nat) (jn af:Int) (vT:Value) (gD nD cD:Nat) (lN lO rN rO:Value) (D:List Int) (aD:List (List Nat)) (aA:List Nat) (aH:List (List Nat)) (aG:List Nat) (cl lo gC nC cC:Nat) (C:List Int) (w:World)
  (hM:Mz w mb jn af vT (.slice (some ⟨gD,0,none⟩) nD cD) lN lO rN rO) (hD:Ub w gD D) (hDn:D.length=nD) (hn:nD≤24) (Uw:L.Ra w lo (.agg #[lN,lO]) aD aA) (Lr:L.Hm.Ok aD aA cl) (hRR:L.Ra w lo (.agg #[rN,rO]) aH aG) (Lt:L.Hm.Ok aH aG cl) (hcl:cl≤24)
  (hC:Ib w gC C) (FX:C.length=nC) (JV:nC≤1000) (hin:∀c∈C,0≤c∧c <(cl:Int)) (hx:∀i,i < nC→bx aD aA aH aG C i < 1024∧(0 < bx aD aA aH aG C i→tz (bx aD aA aH aG C i) < nD)) (hT:Tz w) (hu:(∀s x:Nat,aA[s]?=some x→x < 4294967296)∧(∀s x:Nat,aG[s]?=some x→x < 4294967296)):
  Calls Tryz.prog 15 #[.pointer (some ⟨mb,0,none⟩),.slice (some ⟨gC,0,none⟩) nC cC] w fun e w'=>∃g,e=.returned (.slice (some ⟨g,0,none⟩) nC nC)∧w.heap.size≤g∧Ub w' g (IC D aD aA aH aG C)∧Only (fun _=>False) w w':=by
 obtain⟨aX,kX,gL,kY,wsL,rfl,rfl,_,mX,mY,_,hgL,hcL⟩:=Lm Uw Lr hcl
 obtain⟨aZ,kZ,gR,kW,wsR,rfl,rfl,_,mZ,mW,_,hgR,hcR⟩:=Lm hRR Lt hcl
 have Tu:∀c∈C.reverse,0≤c∧c <(cl:Int):=fun c hc=>hin c (List.mem_reverse.1 hc)
 obtain⟨M,hM1⟩:∃M,M=nC+1:=⟨_,rfl⟩
 have aao:Hid (∀W',Only (fun _=>False) w W'→Calls Tryz.prog 26 #[.slice (some ⟨gC,0,none⟩) nC cC] W' fun e w'=>∃g cap,e=.returned (.slice (some ⟨g,0,none⟩) nC cap)∧w'.ownsRow W'.heap.size 3 1 (.slice (some ⟨g,0,none⟩) nC cap) nC (ints C)∧Only (fun _=>False) W' w'):=fun W' ho=>by
  refine (L.G8 gC 0 nC cC (C.map Int.toNat) W' (by omega) (by rw [List.length_map];exact FX) (fun j x hj=>?_)).mono ?_
  ·rw [List.getElem?_map] at hj
   cases hc:C[j]? with
   | none=>rw [hc] at hj;cases hj
   | some c=>
    rw [hc] at hj
    injection hj with hj
    have:=(hin c (List.mem_of_getElem? hc)).1
    rw [Nat.zero_add,(hC.dG ho).cell hc,←hj,Int.toNat_of_nonneg this]
  ·rintro e w' ⟨g,cap,h1,h2,h3⟩
   rw [L.xg,xw,OJ (fun c hc=>(hin c hc).1)] at h2
   exact⟨g,cap,h1,h2,Dy h3⟩
 have Uj:Hid (∀W' g cap b,W'.ownsRow b 3 1 (.slice (some ⟨g,0,none⟩) nC cap) nC (ints C)→Calls Tryz.prog 27 #[.slice (some ⟨g,0,none⟩) nC cap] W' fun e w'=>e=.returned (.tuple #[])∧w'.ownsRow b 3 1 (.slice (some ⟨g,0,none⟩) nC cap) nC (ints C.reverse)∧Only (·=g) W' w'):=fun W' g cap b h=>by
  rw [←FX] at h ⊢
  exact A_ C g cap b W' h (by omega)
 have NL:Hid (∀W',Only (fun _=>False) w W'→Calls Tryz.prog 28 #[.agg #[.slice aX aD.length kX,.slice (some ⟨gL,0,none⟩) aA.length kY],.slice (some ⟨gC,0,none⟩) nC cC] W' fun e w'=>∃g cp,e=.returned (.slice (some ⟨g,0,none⟩) M cp)∧g < w'.heap.size∧(∀j,j≤nC→w'.cell? ⟨g,j,none⟩=some (.int .i64 (stt aD C j:Int)))∧Only (fun _=>False) W' w'):=fun W' ho=>by
  have hi:=(hC.dG ho).iw
  rw [FX] at hi
  refine (Bb (Uw.keep (fI ho)) Lr hcl _ nC cC C hi (by omega) hin).mono ?_
  rw [hM1]
  rintro e w' ⟨g,cp,h1,_,h2,h3,h4⟩
  exact⟨g,cp,h1,h2,fun j hj=>h3 j _ (DD aD C j (by omega)),h4⟩
 have HRR:Hid (∀W' g cap b,Only (fun _=>False) w W'→W'.ownsRow b 3 1 (.slice (some ⟨g,0,none⟩) nC cap) nC (ints C.reverse)→Calls Tryz.prog 28 #[.agg #[.slice aZ aH.length kZ,.slice (some ⟨gR,0,none⟩) aG.length kW],.slice (some ⟨g,0,none⟩) nC cap] W' fun e w'=>∃g cp,e=.returned (.slice (some ⟨g,0,none⟩) M cp)∧g < w'.heap.size∧(∀j,j≤nC→w'.cell? ⟨g,j,none⟩=some (.int .i64 (stt aH C.reverse j:Int)))∧Only (fun _=>False) W' w'):=fun W' g cap b ho hg=>by
  refine (Bb (hRR.keep (fI ho)) Lt hcl _ nC cap C.reverse (oq hg (by rw [List.length_reverse];exact FX.symm)) (by omega) Tu).mono ?_
  rw [hM1]
  rintro e w' ⟨g,cp,h1,_,h2,h3,h4⟩
  exact⟨g,cp,h1,h2,fun j hj=>h3 j _ (DD aH C.reverse j (by rw [List.length_reverse];omega)),h4⟩
 have HF:Hid (∀W' i,Only (fun _=>False) w W'→i < nC→Calls Tryz.prog 29 #[.pointer (some ⟨mb,0,none⟩),.int .u32 (bx aD aA aH aG C i:Int)] W' fun e w'=>e=.returned (.int .u8 (OG D (bx aD aA aH aG C i)))∧Only (fun _=>False) W' w'):=fun W' i ho hi=>GY mb jn af vT gD nD cD _ _ _ _ D (bx aD aA aH aG C i) W' ((ho.block mb (Array.getElem?_eq_some_iff.1 hM).1 (fun h=>h)).trans hM) (hD.dG ho) hDn hn (hx i hi).1 (hx i hi).2 (hT.keep ho)
 have SX:Hid (∀W',Only (fun _=>False) w W'→(W'.cell? ⟨mb,4,none⟩=some (.slice aX aD.length kX)∧W'.cell? ⟨mb,5,none⟩=some (.slice (some ⟨gL,0,none⟩) aA.length kY)∧W'.cell? ⟨mb,6,none⟩=some (.slice aZ aH.length kZ)∧W'.cell? ⟨mb,7,none⟩=some (.slice (some ⟨gR,0,none⟩) aG.length kW))∧mb < W'.heap.size):=fun W' ho=>by
  have h:=(ho.block mb (Array.getElem?_eq_some_iff.1 hM).1 (fun h=>h)).trans hM
  exact⟨⟨ae h,ae h,ae h,ae h⟩,(Array.getElem?_eq_some_iff.1 h).1⟩
 have Yd:Hid (∀W' i,Only (fun _=>False) w W'→i < nC→∃sL sR xL xR:Nat,stt aD C i=sL∧stt aH C.reverse (nC - i)=sR∧sL < aA.length∧sR < aG.length∧W'.cell? ⟨gL,sL,none⟩=some (.int .u32 (xL:Int))∧W'.cell? ⟨gR,sR,none⟩=some (.int .u32 (xR:Int))∧bx aD aA aH aG C i=xL &&& xR∧gL < W'.heap.size∧gR < W'.heap.size∧xL < 4294967296∧xR < 4294967296):=fun W' i ho hi=>by
  have q1:=Lp Lr C hin i (by omega)
  have q2:=Lp Lt C.reverse Tu (nC - i) (by rw [List.length_reverse];omega)
  refine⟨_,_,_,_,rfl,rfl,by rw [Lr.mK];exact q1,by rw [Lt.mK];exact q2,(World.cell?_of_block (a:=⟨gL,_,none⟩) (ho.block gL hgL (fun h=>h))).trans (hcL _ _ (Lr.o q1)),(World.cell?_of_block (a:=⟨gR,_,none⟩) (ho.block gR hgR (fun h=>h))).trans (hcR _ _ (Lt.o q2)),?_,Nat.lt_of_lt_of_le hgL ho.size,Nat.lt_of_lt_of_le hgR ho.size,hu.1 _ _ (Lr.o q1),hu.2 _ _ (Lt.o q2)⟩
  unfold bx
  rw [FX]
 have MN:Hid ((∀i,i < nC→(IC D aD aA aH aG C)[i]?=some (OG D (bx aD aA aH aG C i)))∧(IC D aD aA aH aG C).length=nC):=⟨fun i hi=>Tt D aD aA aH aG C i (by omega),(E5 D aD aA aH aG C).trans FX⟩
 obtain⟨B,hB⟩:∃B,B=IC D aD aA aH aG C:=⟨_,rfl⟩
 rw [←hB] at MN ⊢
 unfold maxLen at mX mY mZ mW
 have hlX:=Lr.mK
 have hlZ:=Lt.mK
 obtain⟨nX,Tn⟩:∃x,x=aD.length:=⟨_,rfl⟩
 obtain⟨nY,Qh⟩:∃x,x=aA.length:=⟨_,rfl⟩
 obtain⟨nZ,Tp⟩:∃x,x=aH.length:=⟨_,rfl⟩
 obtain⟨nW,Qi⟩:∃x,x=aG.length:=⟨_,rfl⟩
 rw [←Tn,←Qh] at NL
 rw [←Tp,←Qi] at HRR
 rw [←Tn,←Qh,←Tp,←Qi] at SX
 rw [←Qh,←Qi] at Yd
 rw [←Tn] at mX
 rw [←Qh] at mY
 rw [←Tp] at mZ
 rw [←Qi] at mW
 have Cf:=zH hM1
 clear hu hM1 hM hD Uw hRR Lr Lt hC hin Tu hx hT hcL hcR hgL hgR hB Tn Qh Tp Qi hlX hlZ hDn hcl FX
 have hmk:=fun (w:World)=>run_make_row' (P:=Tryz.prog) 40 45 (.int .u8 0) 1 Tryz.underlying40 CW rfl .i64 .i64 nC (by omega) (by omega) w
 go_enter Tryz.func15,Tryz.ntmps15
 go_wp2_with fail
 refine Calls.mono (aao.out _ (Only.refl _ _)) ?_
 rintro e w1 ⟨gB,cB,rfl,hown,ho1⟩
 have hgB:w.heap.size≤gB:=(L.bz hown rfl).1
 have H1:Hid (w1.ownsRow w.heap.size 3 1 (.slice (some ⟨gB,0,none⟩) nC cB) nC (ints C)∧Only (fun _=>False) w w1∧w.heap.size≤gB):=⟨hown,ho1,hgB⟩
 clear hown ho1 hgB
 go_wp2_with fail
 refine Calls.mono (Uj.out _ _ _ _ H1.out.1) ?_
 rintro e w2 ⟨rfl,hown,ho2⟩
 have H2:Hid (w2.ownsRow w.heap.size 3 1 (.slice (some ⟨gB,0,none⟩) nC cB) nC (ints C.reverse)∧Only (fun _=>False) w w2):=⟨hown,((H1.out.2.1.mono (S':=(·=gB)) (fun _ h=>h.elim)).trans ho2).old (fun b hb=>Or.inl (by rw [hb];exact H1.out.2.2))⟩
 clear hown ho2
 go_upto_region 3 with fail
 have HD:Hid (Only (fun _=>False) w w2.drew):=H2.out.2.drew
 refine wp_region_held_drew (S:=(fun W'=>W'.cell? ⟨mb,4,none⟩=some (.slice aX nX kX)∧W'.cell? ⟨mb,5,none⟩=some (.slice (some ⟨gL,0,none⟩) nY kY)∧W'.cell? ⟨mb,6,none⟩=some (.slice aZ nZ kZ)∧W'.cell? ⟨mb,7,none⟩=some (.slice (some ⟨gR,0,none⟩) nW kW))) (by kernel_rfl) (SX.out _ HD.out).1 (fun hHeld=>?_)
 refine Ii (i:=0) (oi:=⟨some 16,_,_,_,_,_⟩) (v:=.pointer (some ⟨mb,0,none⟩)) rfl ?_
 (try simp only [Act.put,zA,zB,zC])
 refine Ii (i:=1) (oi:=⟨some 17,_,_,_,_,_⟩) (v:=.pointer (some ⟨mb,0,none⟩)) rfl ?_
 (try simp only [Act.put,zA,zB,zC])
 refine Ii (i:=2) (oi:=⟨some 18,_,_,_,_,_⟩) (v:=.pointer (some ⟨mb,4,none⟩)) rfl ?_
 (try simp only [Act.put,zA,zB,zC])
 refine Ii (i:=3) (oi:=⟨some 19,_,_,_,_,_⟩) (v:=.agg #[.slice aX nX kX,.slice (some ⟨gL,0,none⟩) nY kY]) rfl ?_
 (try simp only [Act.put,zA,zB,zC])
 refine Ii (i:=4) (oi:=⟨some 20,_,_,_,_,_⟩) (v:=.slice (some ⟨gC,0,none⟩) nC cC) rfl ?_
 (try simp only [Act.put,zA,zB,zC])
 refine Ii (i:=6) (oi:=⟨some 22,_,_,_,_,_⟩) (v:=.pointer (some ⟨mb,0,none⟩)) rfl ?_
 (try simp only [Act.put,zA,zB,zC])
 refine Ii (i:=7) (oi:=⟨some 23,_,_,_,_,_⟩) (v:=.pointer (some ⟨mb,0,none⟩)) rfl ?_
 (try simp only [Act.put,zA,zB,zC])
 refine Ii (i:=8) (oi:=⟨some 24,_,_,_,_,_⟩) (v:=.pointer (some ⟨mb,6,none⟩)) rfl ?_
 (try simp only [Act.put,zA,zB,zC])
 refine Ii (i:=9) (oi:=⟨some 25,_,_,_,_,_⟩) (v:=.agg #[.slice aZ nZ kZ,.slice (some ⟨gR,0,none⟩) nW kW]) rfl ?_
 (try simp only [Act.put,zA,zB,zC])
 refine Ii (i:=10) (oi:=⟨some 26,_,_,_,_,_⟩) (v:=.slice (some ⟨gB,0,none⟩) nC cB) rfl ?_
 (try simp only [Act.put,zA,zB,zC])
 refine wpAnyH_ready (rs:=[5]) (by kernel_rfl) (by simp) ?_
 refine AllReadyH.cons rfl (fun K hK=>?_) AllReadyH.nil
 rw [if_pos (by rfl)]
 go_simp
 refine Calls.mono (NL.out _ HD.out) ?_
 rintro e y1 ⟨gA,cA,rfl,hgA,hcA,ho⟩
 have G1:Hid ((∀j,j≤nC→y1.cell? ⟨gA,j,none⟩=some (.int .i64 (stt aD C j:Int)))∧gA < y1.heap.size∧Only (fun _=>False) w y1∧y1.ownsRow w.heap.size 3 1 (.slice (some ⟨gB,0,none⟩) nC cB) nC (ints C.reverse)):=⟨hcA,hgA,HD.out.trans ho,L.ai H2.out.1 (fI (((Only.refl _ _).drew).trans ho)) (fun _ _ h=>h)⟩
 clear hcA hgA ho
 refine hK.out _ _ ((SX.out _ G1.out.2.2.1).1) (fun hHeld=>?_)
 clear hK
 (try simp only [Act.put,zA,zB,zC])
 refine wpAnyH_ready (rs:=[11]) (by kernel_rfl) (by simp) ?_
 refine AllReadyH.cons rfl (fun K hK=>?_) AllReadyH.nil
 rw [if_pos (by rfl)]
 go_simp
 refine Calls.mono (HRR.out _ _ _ _ G1.out.2.2.1 G1.out.2.2.2) ?_
 rintro e y2 ⟨gE,cE,rfl,hgE,hcE,ho⟩
 have G2:Hid ((∀j,j≤nC→y2.cell? ⟨gA,j,none⟩=some (.int .i64 (stt aD C j:Int)))∧gA < y2.heap.size∧(∀j,j≤nC→y2.cell? ⟨gE,j,none⟩=some (.int .i64 (stt aH C.reverse j:Int)))∧gE < y2.heap.size∧Only (fun _=>False) w y2):=⟨fun j hj=>(World.cell?_of_block (a:=⟨gA,j,none⟩) (ho.block _ G1.out.2.1 (fun h=>h))).trans (G1.out.1 j hj),Nat.lt_of_lt_of_le G1.out.2.1 ho.size,hcE,hgE,G1.out.2.2.1.trans ho⟩
 clear hcE hgE ho
 refine hK.out _ _ ((SX.out _ G2.out.2.2.2.2).1) (fun hHeld=>?_)
 clear hK
 (try simp only [Act.put,zA,zB,zC])
 refine Ii (i:=12) (oi:=⟨some 6,_,_,_,_,_⟩) (v:=.slice (some ⟨gA,0,none⟩) M cA) rfl ?_
 (try simp only [Act.put,zA,zB,zC])
 refine Ii (i:=13) (oi:=⟨some 7,_,_,_,_,_⟩) (v:=.slice (some ⟨gE,0,none⟩) M cE) rfl ?_
 (try simp only [Act.put,zA,zB,zC])
 refine wpAnyH_done (by kernel_rfl) ?_ _
 clear hHeld
 go_wp2_with fail
 go_loopg [33] nC (fun gh v wr=>∃(k:Nat) (W:World),W=wr∧gh=nC - k∧k≤nC∧v=.int .i64 (k:Int)∧Ub W y2.heap.size (ik B k)∧Only (fun _=>False) y2 W)
 case atStart=>
  refine⟨0,_,rfl,rfl,Nat.zero_le _,rfl,?_,(Only.refl _ _).alloc _⟩
  rw [lK,MN.out.2]
  unfold Ub
  rw [←yj]
  exact heap_alloc_new y2 _
 case round=>
  obtain⟨k,W,hW,rfl,hk,rfl,hU,ho⟩:=hrel
  subst hW
  have HU:=zH hU
  have HO:Hid (Only (fun _=>False) y2 W∧Only (fun _=>False) w W):=⟨ho,G2.out.2.2.2.2.trans ho⟩
  have lub:=hU.lt
  by_cases hlt:k < nC
  ·have t1:(k:Int) <(nC:Int):=by omega
   have hM1:=Cf.out
   obtain⟨m,hm⟩:∃m,m=nC - k:=⟨_,rfl⟩
   have t2:(nC:Int) -(k:Int)=(m:Int):=by omega
   have t3:(m:Int) <(M:Int):=by omega
   have t5:(k:Int) <(M:Int):=by omega
   obtain⟨sL,sR,xL,xR,e1,e2,l1,l2,c1,c2,ex,lL,lR,vL,vR⟩:=Yd.out W k HO.out.2 hlt
   have c3:W.cell? ⟨gA,k,none⟩=some (.int .i64 (sL:Int)):=by rw [←e1];exact (World.cell?_of_block (a:=⟨gA,k,none⟩) (ho.block _ G2.out.2.1 (fun h=>h))).trans (G2.out.1 k (by omega))
   have c4:W.cell? ⟨gE,m,none⟩=some (.int .i64 (sR:Int)):=by rw [←e2,←hm];exact (World.cell?_of_block (a:=⟨gE,m,none⟩) (ho.block _ G2.out.2.2.2.1 (fun h=>h))).trans (G2.out.2.2.1 m (by omega))
   have lA:gA < W.heap.size:=Nat.lt_of_lt_of_le G2.out.2.1 ho.size
   have lE:gE < W.heap.size:=Nat.lt_of_lt_of_le G2.out.2.2.2.1 ho.size
   obtain⟨⟨c5,c6,c7,c8⟩,lm⟩:=SX.out W HO.out.2
   have l1':(sL:Int) <(nY:Int):=by omega
   have l2':(sR:Int) <(nW:Int):=by omega
   have HEX:Hid (bits .and .u32 (xL:Int) (xR:Int)=(bx aD aA aH aG C k:Int)):=by
    rw [ex]
    exact u32_and_nat _ _ vL vR
   have VV:m≤1000:=by omega
   have t13:IntKind.i64.wrap (m:Int)=(m:Int):=wrap_small _ (by omega) (by omega)
   clear hU ho hmk e1 e2 ex hM1 hm vL vR
   go_upto_region 8 with fail
   refine wp_region_held_drew (S:=(fun w'=>(w'.cell? ⟨mb,5,none⟩=some (.slice (some ⟨gL,0,none⟩) nY kY)∧w'.cell? ⟨mb,7,none⟩=some (.slice (some ⟨gR,0,none⟩) nW kW))∧(w'.cell? ⟨gA,k,none⟩=some (.int .i64 (sL:Int))∧w'.cell? ⟨gE,m,none⟩=some (.int .i64 (sR:Int)))∧w'.cell? ⟨gL,sL,none⟩=some (.int .u32 (xL:Int))∧w'.cell? ⟨gR,sR,none⟩=some (.int .u32 (xR:Int)))) (by kernel_rfl) ⟨⟨c6,c8⟩,⟨c3,c4⟩,c1,c2⟩ (fun hHeld=>?_)
   refine qD (i:=0) (oi:=⟨some 36,_,_,_,_,_⟩) (v:=.pointer (some ⟨mb,0,none⟩)) rfl ?_
   (try simp only [Act.put,zA,zB,zC])
   refine qD (i:=1) (oi:=⟨some 37,_,_,_,_,_⟩) (v:=.pointer (some ⟨mb,0,none⟩)) rfl ?_
   (try simp only [Act.put,zA,zB,zC])
   refine qD (i:=2) (oi:=⟨some 38,_,_,_,_,_⟩) (v:=.pointer (some ⟨mb,4,none⟩)) rfl ?_
   (try simp only [Act.put,zA,zB,zC])
   refine qD (i:=3) (oi:=⟨some 39,_,_,_,_,_⟩) (v:=.pointer (some ⟨mb,5,none⟩)) rfl ?_
   (try simp only [Act.put,zA,zB,zC])
   refine qD (i:=4) (oi:=⟨some 40,_,_,_,_,_⟩) (v:=.slice (some ⟨gL,0,none⟩) nY kY) rfl ?_
   (try simp only [Act.put,zA,zB,zC])
   refine qD (i:=5) (oi:=⟨some 41,_,_,_,_,_⟩) (v:=.slice (some ⟨gA,0,none⟩) M cA) rfl ?_
   (try simp only [Act.put,zA,zB,zC])
   refine qD (i:=6) (oi:=⟨some 42,_,_,_,_,_⟩) (v:=.int .i64 (k:Int)) rfl ?_
   (try simp only [Act.put,zA,zB,zC])
   refine qD (i:=7) (oi:=⟨some 43,_,_,_,_,_⟩) (v:=.pointer (some ⟨gA,k,none⟩)) rfl ?_
   (try simp only [Act.put,zA,zB,zC])
   refine qD (i:=8) (oi:=⟨some 44,_,_,_,_,_⟩) (v:=.int .i64 (sL:Int)) rfl ?_
   (try simp only [Act.put,zA,zB,zC])
   refine qD (i:=9) (oi:=⟨some 45,_,_,_,_,_⟩) (v:=.pointer (some ⟨gL,sL,none⟩)) rfl ?_
   (try simp only [Act.put,zA,zB,zC])
   refine qD (i:=10) (oi:=⟨some 46,_,_,_,_,_⟩) (v:=.int .u32 (xL:Int)) rfl ?_
   (try simp only [Act.put,zA,zB,zC])
   refine qD (i:=11) (oi:=⟨some 47,_,_,_,_,_⟩) (v:=.pointer (some ⟨mb,0,none⟩)) rfl ?_
   (try simp only [Act.put,zA,zB,zC])
   refine qD (i:=12) (oi:=⟨some 48,_,_,_,_,_⟩) (v:=.pointer (some ⟨mb,0,none⟩)) rfl ?_
   (try simp only [Act.put,zA,zB,zC])
   refine qD (i:=13) (oi:=⟨some 49,_,_,_,_,_⟩) (v:=.pointer (some ⟨mb,6,none⟩)) rfl ?_
   (try simp only [Act.put,zA,zB,zC])
   refine qD (i:=14) (oi:=⟨some 50,_,_,_,_,_⟩) (v:=.pointer (some ⟨mb,7,none⟩)) rfl ?_
   (try simp only [Act.put,zA,zB,zC])
   refine qD (i:=15) (oi:=⟨some 51,_,_,_,_,_⟩) (v:=.slice (some ⟨gR,0,none⟩) nW kW) rfl ?_
   (try simp only [Act.put,zA,zB,zC])
   refine qD (i:=16) (oi:=⟨some 52,_,_,_,_,_⟩) (v:=.slice (some ⟨gE,0,none⟩) M cE) rfl ?_
   (try simp only [Act.put,zA,zB,zC])
   refine qD (i:=17) (oi:=⟨some 53,_,_,_,_,_⟩) (v:=.slice (some ⟨gC,0,none⟩) nC cC) rfl ?_
   (try simp only [Act.put,zA,zB,zC])
   refine qD (i:=18) (oi:=⟨some 54,_,_,_,_,_⟩) (v:=.int .i64 (nC:Int)) rfl ?_
   (try simp only [Act.put,zA,zB,zC])
   refine qD (i:=19) (oi:=⟨some 55,_,_,_,_,_⟩) (v:=.int .i64 (k:Int)) rfl ?_
   (try simp only [Act.put,zA,zB,zC])
   refine qD (i:=20) (oi:=⟨some 56,_,_,_,_,_⟩) (v:=.int .i64 (m:Int)) rfl ?_
   (try simp only [Act.put,zA,zB,zC])
   refine qD (i:=21) (oi:=⟨some 57,_,_,_,_,_⟩) (v:=.pointer (some ⟨gE,m,none⟩)) rfl ?_
   (try simp only [Act.put,zA,zB,zC])
   refine qD (i:=22) (oi:=⟨some 58,_,_,_,_,_⟩) (v:=.int .i64 (sR:Int)) rfl ?_
   (try simp only [Act.put,zA,zB,zC])
   refine qD (i:=23) (oi:=⟨some 59,_,_,_,_,_⟩) (v:=.pointer (some ⟨gR,sR,none⟩)) rfl ?_
   (try simp only [Act.put,zA,zB,zC])
   refine qD (i:=24) (oi:=⟨some 60,_,_,_,_,_⟩) (v:=.int .u32 (xR:Int)) rfl ?_
   (try simp only [Act.put,zA,zB,zC])
   refine qD (i:=25) (oi:=⟨some 10,_,_,_,_,_⟩) (v:=.int .u32 (xL:Int)) rfl ?_
   (try simp only [Act.put,zA,zB,zC])
   refine qD (i:=26) (oi:=⟨some 11,_,_,_,_,_⟩) (v:=.int .u32 (xR:Int)) rfl ?_
   (try simp only [Act.put,zA,zB,zC])
   refine wpAnyH_done (by kernel_rfl) ?_ _
   clear hHeld
   go_wp2_with fail
   rw [HEX.out]
   refine Calls.mono (HF.out _ k HO.out.2.drew hlt) ?_
   rintro e w3 ⟨rfl,ho3⟩
   have H3:Hid (Only (fun _=>False) W w3):=((Only.refl _ _).drew).trans ho3
   have WN:=HU.out.dG H3.out
   have HU3:=zH WN
   obtain⟨z,hz⟩:∃z,(ik B k)[k]?=some z:=⟨_,List.getElem?_eq_getElem (by rw [pO (by rw [MN.out.2];exact hk),MN.out.2];exact hlt)⟩
   have u0:=WN.cell hz
   have u1:w3.frozen? ⟨y2.heap.size,k,none⟩=false:=WN.fz k
   have u2:=WN.lt
   clear WN hz ho3
   go_wp2_with fail
   go_roundg (nC -(k+1))
   case measure=>omega
   case rel=>
    refine⟨k+1,_,rfl,rfl,by omega,by go_num,?_,(HO.out.1.trans H3.out).aS (p:=⟨y2.heap.size,k,none⟩) (Nat.le_refl _) _⟩
    have hs:=HU3.out.set k (OG D (bx aD aA aH aG C k))
    rw [pQ (MN.out.1 k hlt)] at hs
    exact hs
  ·have t2:decide ((k:Int) <(nC:Int))=false:=decide_eq_false (by omega)
   have hkn:k=nC:=by omega
   subst hkn
   clear hU ho hmk
   go_wp2_with fail
   go_ret
   refine⟨y2.heap.size,rfl,G2.out.2.2.2.2.size,?_,HO.out.2⟩
   have:=HU.out
   rw [show ik B k=B by have:=lM B;rw [MN.out.2] at this;exact this] at this
   exact this
end Go.Proofs.YtdlabakleldgaaaGreatDoor
