/- Sg14 -/
import Derived.Test.YtchaoonefiamdaaGreatDoorZ44
import Derived.Deep.RegionHeld3
namespace Go.Proofs.YtchaoonefiamdaaGreatDoor
open Go.RowKit Go.Maps
set_option linter.unusedVariables false
set_option linter.unusedSimpArgs false
open Rl (Ex)
namespace L
set_option maxRecDepth 100000 in
set_option maxHeartbeats 4000000 in
theorem clone_gen (b o m c:Nat) (D:List Nat) (w:World) (hm:m≤100000) (hD:D.length=m) (hc:∀ (j x:Nat),D[j]?=some x→w.cell? ⟨b,o+j,none⟩=some (.int .i64 (x:Int))) :
  Calls Tryz.prog 25 #[.slice (some ⟨b,o,none⟩) m c] w fun e w'=>∃ g cap,e=.returned (.slice (some ⟨g,0,none⟩) m cap)∧w'.ownsRow w.heap.size 3 1 (.slice (some ⟨g,0,none⟩) m cap) m (nums D).toList∧Only (fun _=>False) w w':=by
 obtain⟨i3,g3,g30,g31,g32⟩:=info_parts info3
 have HC:Hid (∀ (j x:Nat),D[j]?=some x→w.cell? ⟨b,o+j,none⟩=some (.int .i64 (x:Int))):=hc
 have HD:Hid (D.length=m):=hD
 clear hc hD
 have HOWN:Hid ((w.alloc (.cells #[] 3)).ownsRow w.heap.size 3 1 (.slice (some ⟨w.heap.size,0,none⟩) 0 0) 0 []):=⟨rfl,Or.inr ⟨w.heap.size,0,#[],rfl,Nat.le_refl _,heap_alloc_new w _,Nat.le_refl _,by unfold maxLen;omega,rfl,rfl⟩⟩
 have HN:Hid (∀ (j:Nat) (u:Value),(nums D).toList[j]?=some u→(w.alloc (.cells #[] 3)).cell? ((⟨b,o,none⟩:Addr).add j)=some u):=fun j u hj=>by
  rw [Array.getElem?_toList,nums_at] at hj
  cases hx:D[j]? with
  | none=>rw [hx] at hj;cases hj
  | some x =>
   rw [hx] at hj
   injection hj with hj
   subst hj
   have h1:=HC.out j x hx
   have hb:=World.block_lt_of_cell? w _ h1
   rw [Addr.add_mid]
   exact (World.cell?_of_block (a:=⟨b,o+j,none⟩) (Below.heap_alloc _ _ _ hb)).trans h1
 have hq:∀ W,(binOp .eql 23 (.slice (some ⟨b,o,none⟩) m c) (.slice none 0 0)).run Tryz.prog W=.ok (.bool false) W:=fun W=>Lib.run_eql_slice_nil W 23 3 (some ⟨b,o,none⟩) m c 0 0 Tryz.underlying23
 go_enter Tryz.func25,Tryz.ntmps25
 go_wp2_with (first | (at_builtin;refine wpList_append_own_at _ rfl _ _ 23 rfl w.heap.size 3 i3 (.int .i64 0) 1 8 Tryz.underlying23 g3 g30 g31 g32 rfl (by decide) (.slice (some ⟨w.heap.size,0,none⟩) 0 0) 0 [] rfl HOWN.out ⟨b,o,none⟩ m c (nums D).toList rfl (by rw [Array.length_toList,nums_size,HD.out];omega) HN.out (fun u hu=>by unfold nums at hu;simp at hu;obtain⟨x,_,rfl⟩:=hu;rfl) (by unfold maxLen;omega) (by omega) (by simp) ?_;intro v3 w3 ho3 hg3 hnn3 hat3;have HNN:Hid (v3≠.slice none 0 0):=(fun e=>by have h:=(hnn3.1 e).1;cases h);have HO3:Hid (w3.ownsRow w.heap.size 3 1 v3 m (nums D).toList):=(by rw [Nat.zero_add,List.nil_append] at ho3;exact ho3);have HK3:Hid (Only (fun _=>False) w w3):=((((Only.refl (fun b=>w.heap.size≤b) w).alloc _).grown hg3 (fun q hq=>by injection hq with hq;subst hq;exact Nat.le_refl _)).old (fun g hg=>Or.inl hg));clear ho3 hg3 hat3 hnn3))
 go_ret
 obtain⟨_,⟨hv,_⟩ | ⟨g,cap,_,rfl,_⟩⟩:=HO3.out
 ·exact absurd hv HNN.out
 ·exact⟨g,cap,rfl,HO3.out,HK3.out⟩
end L
def stt (rows:List (List Nat)) (C:List Int) (k:Nat):Nat:=(0::Au.runs rows 0 C)[k]?.getD 0
theorem stt_at (rows:List (List Nat)) (C:List Int) (k:Nat) (h:k≤C.length):(0::Au.runs rows 0 C)[k]?=some (stt rows C k):=by
 have e:=List.getElem?_eq_getElem (l:=0::Au.runs rows 0 C) (i:=k) (by rw [List.length_cons,Au.runs_len];omega)
 unfold stt
 rw [e]
 rfl
def bx (rowsL:List (List Nat)) (outsL:List Nat) (rowsR:List (List Nat)) (outsR:List Nat) (C:List Int) (i:Nat):Nat:=L.Hm.oR outsL (stt rowsL C i) &&& L.Hm.oR outsR (stt rowsR C.reverse (C.length-i))
def btw (D:List Int) (rowsL:List (List Nat)) (outsL:List Nat) (rowsR:List (List Nat)) (outsR:List Nat) (C:List Int):List Int:=(List.range C.length).map (fun i=>frs D (bx rowsL outsL rowsR outsR C i))
theorem btw_len (D:List Int) (rowsL:List (List Nat)) (outsL:List Nat) (rowsR:List (List Nat)) (outsR:List Nat) (C:List Int):(btw D rowsL outsL rowsR outsR C).length=C.length:=by simp [btw]
theorem btw_at (D:List Int) (rowsL:List (List Nat)) (outsL:List Nat) (rowsR:List (List Nat)) (outsR:List Nat) (C:List Int) (i:Nat) (h:i < C.length):(btw D rowsL outsL rowsR outsR C)[i]?=some (frs D (bx rowsL outsL rowsR outsR C i)):=by
 unfold btw
 rw [List.getElem?_map,List.getElem?_range h]
 rfl
theorem stt_lt {rows:List (List Nat)} {outs:List Nat} {k:Nat} (h:L.Hm.Ok rows outs k) (C:List Int) (hC:∀ c∈C,0≤c∧c < (k:Int)) (i:Nat) (hi:i≤C.length):stt rows C i < rows.length:=by
 obtain⟨_,hs⟩:=runs_some (stt_at rows C i hi)
 rw [hs]
 refine h.fold _ (fun c hc=>?_) 0 h.pos
 obtain⟨x,hx,rfl⟩:=List.mem_map.1 hc
 have:=hC x (List.mem_of_mem_take hx)
 omega
set_option maxRecDepth 100000 in
set_option maxHeartbeats 8000000 in
theorem between_any (mb:Nat) (jn af:Int) (vT:Value) (gD nD cD:Nat) (lN lO rN rO:Value) (D:List Int) (rowsL:List (List Nat)) (outsL:List Nat) (rowsR:List (List Nat)) (outsR:List Nat) (cl lo gC nC cC:Nat) (C:List Int) (w:World)
  (hM:Mz w mb jn af vT (.slice (some ⟨gD,0,none⟩) nD cD) lN lO rN rO) (hD:Ub w gD D) (hDn:D.length=nD) (hn:nD≤24) (hRL:L.Ra w lo (.agg #[lN,lO]) rowsL outsL) (hOL:L.Hm.Ok rowsL outsL cl) (hRR:L.Ra w lo (.agg #[rN,rO]) rowsR outsR) (hOR:L.Hm.Ok rowsR outsR cl) (hcl:cl≤24)
  (hC:Ib w gC C) (hCl:C.length=nC) (hnC:nC≤1000) (hin:∀ c∈C,0≤c∧c < (cl:Int)) (hx:∀ i,i < nC→bx rowsL outsL rowsR outsR C i < 512∧(0 < bx rowsL outsL rowsR outsR C i→tz (bx rowsL outsL rowsR outsR C i) < nD)) (hT:Tz w) (hu:(∀ s x:Nat,outsL[s]?=some x→x < 4294967296)∧(∀ s x:Nat,outsR[s]?=some x→x < 4294967296)) :
  Calls Tryz.prog 13 #[.pointer (some ⟨mb,0,none⟩),.slice (some ⟨gC,0,none⟩) nC cC] w fun e w'=>∃ g,e=.returned (.slice (some ⟨g,0,none⟩) nC nC)∧w.heap.size≤g∧Ub w' g (btw D rowsL outsL rowsR outsR C)∧Only (fun _=>False) w w':=by
 obtain⟨aX,kX,gL,kY,wsL,rfl,rfl,_,mX,mY,_,hgL,hcL⟩:=ra_nw hRL hOL hcl
 obtain⟨aZ,kZ,gR,kW,wsR,rfl,rfl,_,mZ,mW,_,hgR,hcR⟩:=ra_nw hRR hOR hcl
 have hinR:∀ c∈C.reverse,0≤c∧c < (cl:Int):=fun c hc=>hin c (List.mem_reverse.1 hc)
 obtain⟨M,hM1⟩:∃ M,M=nC+1:=⟨_,rfl⟩
 have HCLN:Hid (∀ W',Only (fun _=>False) w W'→Calls Tryz.prog 25 #[.slice (some ⟨gC,0,none⟩) nC cC] W' fun e w'=>∃ g cap,e=.returned (.slice (some ⟨g,0,none⟩) nC cap)∧w'.ownsRow W'.heap.size 3 1 (.slice (some ⟨g,0,none⟩) nC cap) nC (ints C)∧Only (fun _=>False) W' w'):=fun W' ho=>by
  refine (L.clone_gen gC 0 nC cC (C.map Int.toNat) W' (by omega) (by rw [List.length_map];exact hCl) (fun j x hj=>?_)).mono ?_
  ·rw [List.getElem?_map] at hj
   cases hc:C[j]? with
   | none=>rw [hc] at hj;cases hj
   | some c =>
    rw [hc] at hj
    injection hj with hj
    have:=(hin c (List.mem_of_getElem? hc)).1
    rw [Nat.zero_add,(hC.keep0 ho).cell hc,←hj,Int.toNat_of_nonneg this]
  ·rintro e w' ⟨g,cap,h1,h2,h3⟩
   rw [L.nums_list,natI_ints,ints_of (fun c hc=>(hin c hc).1)] at h2
   exact⟨g,cap,h1,h2,only_L h3⟩
 have HRV:Hid (∀ W' g cap b,W'.ownsRow b 3 1 (.slice (some ⟨g,0,none⟩) nC cap) nC (ints C)→Calls Tryz.prog 26 #[.slice (some ⟨g,0,none⟩) nC cap] W' fun e w'=>e=.returned (.tuple #[])∧w'.ownsRow b 3 1 (.slice (some ⟨g,0,none⟩) nC cap) nC (ints C.reverse)∧Only (·=g) W' w'):=fun W' g cap b h=>by
  rw [←hCl] at h ⊢
  exact reverse_any C g cap b W' h (by omega)
 have HRL:Hid (∀ W',Only (fun _=>False) w W'→Calls Tryz.prog 27 #[.agg #[.slice aX rowsL.length kX,.slice (some ⟨gL,0,none⟩) outsL.length kY],.slice (some ⟨gC,0,none⟩) nC cC] W' fun e w'=>∃ g cp,e=.returned (.slice (some ⟨g,0,none⟩) M cp)∧g < w'.heap.size∧(∀ j,j≤nC→w'.cell? ⟨g,j,none⟩=some (.int .i64 (stt rowsL C j:Int)))∧Only (fun _=>False) W' w'):=fun W' ho=>by
  have hi:=(hC.keep0 ho).iw
  rw [hCl] at hi
  refine (mrun_any (hRL.keep (L_only ho)) hOL hcl _ nC cC C hi (by omega) hin).mono ?_
  rw [hM1]
  rintro e w' ⟨g,cp,h1,_,h2,h3,h4⟩
  exact⟨g,cp,h1,h2,fun j hj=>h3 j _ (stt_at rowsL C j (by omega)),h4⟩
 have HRR:Hid (∀ W' g cap b,Only (fun _=>False) w W'→W'.ownsRow b 3 1 (.slice (some ⟨g,0,none⟩) nC cap) nC (ints C.reverse)→Calls Tryz.prog 27 #[.agg #[.slice aZ rowsR.length kZ,.slice (some ⟨gR,0,none⟩) outsR.length kW],.slice (some ⟨g,0,none⟩) nC cap] W' fun e w'=>∃ g cp,e=.returned (.slice (some ⟨g,0,none⟩) M cp)∧g < w'.heap.size∧(∀ j,j≤nC→w'.cell? ⟨g,j,none⟩=some (.int .i64 (stt rowsR C.reverse j:Int)))∧Only (fun _=>False) W' w'):=fun W' g cap b ho hg=>by
  refine (mrun_any (hRR.keep (L_only ho)) hOR hcl _ nC cap C.reverse (iw_own hg (by rw [List.length_reverse];exact hCl.symm)) (by omega) hinR).mono ?_
  rw [hM1]
  rintro e w' ⟨g,cp,h1,_,h2,h3,h4⟩
  exact⟨g,cp,h1,h2,fun j hj=>h3 j _ (stt_at rowsR C.reverse j (by rw [List.length_reverse];omega)),h4⟩
 have HF:Hid (∀ W' i,Only (fun _=>False) w W'→i < nC→Calls Tryz.prog 28 #[.pointer (some ⟨mb,0,none⟩),.int .u32 (bx rowsL outsL rowsR outsR C i:Int)] W' fun e w'=>e=.returned (.int .u8 (frs D (bx rowsL outsL rowsR outsR C i)))∧Only (fun _=>False) W' w'):=fun W' i ho hi=>first_any mb jn af vT gD nD cD _ _ _ _ D (bx rowsL outsL rowsR outsR C i) W' ((ho.block mb (Array.getElem?_eq_some_iff.1 hM).1 (fun h=>h)).trans hM) (hD.keep0 ho) hDn hn (hx i hi).1 (hx i hi).2 (hT.keep ho)
 have HCE:Hid (∀ W',Only (fun _=>False) w W'→(W'.cell? ⟨mb,4,none⟩=some (.slice aX rowsL.length kX)∧W'.cell? ⟨mb,5,none⟩=some (.slice (some ⟨gL,0,none⟩) outsL.length kY)∧W'.cell? ⟨mb,6,none⟩=some (.slice aZ rowsR.length kZ)∧W'.cell? ⟨mb,7,none⟩=some (.slice (some ⟨gR,0,none⟩) outsR.length kW))∧mb < W'.heap.size):=fun W' ho=>by
  have h:=(ho.block mb (Array.getElem?_eq_some_iff.1 hM).1 (fun h=>h)).trans hM
  exact⟨⟨cell_blk h,cell_blk h,cell_blk h,cell_blk h⟩,(Array.getElem?_eq_some_iff.1 h).1⟩
 have HOU:Hid (∀ W' i,Only (fun _=>False) w W'→i < nC→∃ sL sR xL xR:Nat,stt rowsL C i=sL∧stt rowsR C.reverse (nC-i)=sR∧sL < outsL.length∧sR < outsR.length∧W'.cell? ⟨gL,sL,none⟩=some (.int .u32 (xL:Int))∧W'.cell? ⟨gR,sR,none⟩=some (.int .u32 (xR:Int))∧bx rowsL outsL rowsR outsR C i=xL &&& xR∧gL < W'.heap.size∧gR < W'.heap.size∧xL < 4294967296∧xR < 4294967296):=fun W' i ho hi=>by
  have q1:=stt_lt hOL C hin i (by omega)
  have q2:=stt_lt hOR C.reverse hinR (nC-i) (by rw [List.length_reverse];omega)
  refine⟨_,_,_,_,rfl,rfl,by rw [hOL.olen];exact q1,by rw [hOR.olen];exact q2,(World.cell?_of_block (a:=⟨gL,_,none⟩) (ho.block gL hgL (fun h=>h))).trans (hcL _ _ (hOL.o q1)),(World.cell?_of_block (a:=⟨gR,_,none⟩) (ho.block gR hgR (fun h=>h))).trans (hcR _ _ (hOR.o q2)),?_,Nat.lt_of_lt_of_le hgL ho.size,Nat.lt_of_lt_of_le hgR ho.size,hu.1 _ _ (hOL.o q1),hu.2 _ _ (hOR.o q2)⟩
  unfold bx
  rw [hCl]
 have HBT:Hid ((∀ i,i < nC→(btw D rowsL outsL rowsR outsR C)[i]?=some (frs D (bx rowsL outsL rowsR outsR C i)))∧(btw D rowsL outsL rowsR outsR C).length=nC):=⟨fun i hi=>btw_at D rowsL outsL rowsR outsR C i (by omega),(btw_len D rowsL outsL rowsR outsR C).trans hCl⟩
 obtain⟨B,hB⟩:∃ B,B=btw D rowsL outsL rowsR outsR C:=⟨_,rfl⟩
 rw [←hB] at HBT ⊢
 unfold maxLen at mX mY mZ mW
 have hlX:=hOL.olen
 have hlZ:=hOR.olen
 obtain⟨nX,hnX⟩:∃ x,x=rowsL.length:=⟨_,rfl⟩
 obtain⟨nY,hnY⟩:∃ x,x=outsL.length:=⟨_,rfl⟩
 obtain⟨nZ,hnZ⟩:∃ x,x=rowsR.length:=⟨_,rfl⟩
 obtain⟨nW,hnW⟩:∃ x,x=outsR.length:=⟨_,rfl⟩
 rw [←hnX,←hnY] at HRL
 rw [←hnZ,←hnW] at HRR
 rw [←hnX,←hnY,←hnZ,←hnW] at HCE
 rw [←hnY,←hnW] at HOU
 rw [←hnX] at mX
 rw [←hnY] at mY
 rw [←hnZ] at mZ
 rw [←hnW] at mW
 have HM1:Hid (M=nC+1):=hM1
 clear hu hM1 hM hD hRL hRR hOL hOR hC hin hinR hx hT hcL hcR hgL hgR hB hnX hnY hnZ hnW hlX hlZ hDn hcl hCl
 have hmk:=fun (w:World)=>run_make_row' (P:=Tryz.prog) 36 25 (.int .u8 0) 1 Tryz.underlying36 info25 rfl .i64 .i64 nC (by omega) (by omega) w
 go_enter Tryz.func13,Tryz.ntmps13
 go_wp2_with fail
 refine Calls.mono (HCLN.out _ (Only.refl _ _)) ?_
 rintro e w1 ⟨gB,cB,rfl,hown,ho1⟩
 have hgB:w.heap.size≤gB:=(L.own_own hown rfl).1
 have H1:Hid (w1.ownsRow w.heap.size 3 1 (.slice (some ⟨gB,0,none⟩) nC cB) nC (ints C)∧Only (fun _=>False) w w1∧w.heap.size≤gB):=⟨hown,ho1,hgB⟩
 clear hown ho1 hgB
 go_wp2_with fail
 refine Calls.mono (HRV.out _ _ _ _ H1.out.1) ?_
 rintro e w2 ⟨rfl,hown,ho2⟩
 have H2:Hid (w2.ownsRow w.heap.size 3 1 (.slice (some ⟨gB,0,none⟩) nC cB) nC (ints C.reverse)∧Only (fun _=>False) w w2):=⟨hown,((H1.out.2.1.mono (S':=(·=gB)) (fun _ h=>h.elim)).trans ho2).old (fun b hb=>Or.inl (by rw [hb];exact H1.out.2.2))⟩
 clear hown ho2
 go_upto_region 3 with fail
 have HD:Hid (Only (fun _=>False) w w2.drew):=H2.out.2.drew
 refine wp_region_held_drew (S:=(fun W'=>W'.cell? ⟨mb,4,none⟩=some (.slice aX nX kX)∧W'.cell? ⟨mb,5,none⟩=some (.slice (some ⟨gL,0,none⟩) nY kY)∧W'.cell? ⟨mb,6,none⟩=some (.slice aZ nZ kZ)∧W'.cell? ⟨mb,7,none⟩=some (.slice (some ⟨gR,0,none⟩) nW kW))) (by kernel_rfl) (HCE.out _ HD.out).1 (fun hHeld=>?_)
 refine wpAnyH_take (i:=0) (oi:={ dst:=some 16,op:=_,type:=_,pos:=_,after:=_,guard:=_ }) (v:=.pointer (some ⟨mb,0,none⟩)) rfl (by kernel_rfl) (by kernel_rfl) (by kernel_rfl) (fun _ _ _ h=>h) (Or.inl ⟨by rfl,fun w hSw=>by obtain⟨y0,y1,y2,y3⟩:=hSw;first | (go_simp;done) | go_simp⟩) (by assumption) ?_
 (try simp only [Act.put,List.setIfInBounds_toArray,List.set_cons_zero,List.set_cons_succ])
 refine wpAnyH_take (i:=1) (oi:={ dst:=some 17,op:=_,type:=_,pos:=_,after:=_,guard:=_ }) (v:=.pointer (some ⟨mb,0,none⟩)) rfl (by kernel_rfl) (by kernel_rfl) (by kernel_rfl) (fun _ _ _ h=>h) (Or.inl ⟨by rfl,fun w hSw=>by obtain⟨y0,y1,y2,y3⟩:=hSw;first | (go_simp;done) | go_simp⟩) (by assumption) ?_
 (try simp only [Act.put,List.setIfInBounds_toArray,List.set_cons_zero,List.set_cons_succ])
 refine wpAnyH_take (i:=2) (oi:={ dst:=some 18,op:=_,type:=_,pos:=_,after:=_,guard:=_ }) (v:=.pointer (some ⟨mb,4,none⟩)) rfl (by kernel_rfl) (by kernel_rfl) (by kernel_rfl) (fun _ _ _ h=>h) (Or.inl ⟨by rfl,fun w hSw=>by obtain⟨y0,y1,y2,y3⟩:=hSw;first | (go_simp;done) | go_simp⟩) (by assumption) ?_
 (try simp only [Act.put,List.setIfInBounds_toArray,List.set_cons_zero,List.set_cons_succ])
 refine wpAnyH_take (i:=3) (oi:={ dst:=some 19,op:=_,type:=_,pos:=_,after:=_,guard:=_ }) (v:=.agg #[.slice aX nX kX,.slice (some ⟨gL,0,none⟩) nY kY]) rfl (by kernel_rfl) (by kernel_rfl) (by kernel_rfl) (fun _ _ _ h=>h) (Or.inl ⟨by rfl,fun w hSw=>by obtain⟨y0,y1,y2,y3⟩:=hSw;first | (go_simp;done) | go_simp⟩) (by assumption) ?_
 (try simp only [Act.put,List.setIfInBounds_toArray,List.set_cons_zero,List.set_cons_succ])
 refine wpAnyH_take (i:=4) (oi:={ dst:=some 20,op:=_,type:=_,pos:=_,after:=_,guard:=_ }) (v:=.slice (some ⟨gC,0,none⟩) nC cC) rfl (by kernel_rfl) (by kernel_rfl) (by kernel_rfl) (fun _ _ _ h=>h) (Or.inl ⟨by rfl,fun w hSw=>by obtain⟨y0,y1,y2,y3⟩:=hSw;first | (go_simp;done) | go_simp⟩) (by assumption) ?_
 (try simp only [Act.put,List.setIfInBounds_toArray,List.set_cons_zero,List.set_cons_succ])
 refine wpAnyH_take (i:=6) (oi:={ dst:=some 22,op:=_,type:=_,pos:=_,after:=_,guard:=_ }) (v:=.pointer (some ⟨mb,0,none⟩)) rfl (by kernel_rfl) (by kernel_rfl) (by kernel_rfl) (fun _ _ _ h=>h) (Or.inl ⟨by rfl,fun w hSw=>by obtain⟨y0,y1,y2,y3⟩:=hSw;first | (go_simp;done) | go_simp⟩) (by assumption) ?_
 (try simp only [Act.put,List.setIfInBounds_toArray,List.set_cons_zero,List.set_cons_succ])
 refine wpAnyH_take (i:=7) (oi:={ dst:=some 23,op:=_,type:=_,pos:=_,after:=_,guard:=_ }) (v:=.pointer (some ⟨mb,0,none⟩)) rfl (by kernel_rfl) (by kernel_rfl) (by kernel_rfl) (fun _ _ _ h=>h) (Or.inl ⟨by rfl,fun w hSw=>by obtain⟨y0,y1,y2,y3⟩:=hSw;first | (go_simp;done) | go_simp⟩) (by assumption) ?_
 (try simp only [Act.put,List.setIfInBounds_toArray,List.set_cons_zero,List.set_cons_succ])
 refine wpAnyH_take (i:=8) (oi:={ dst:=some 24,op:=_,type:=_,pos:=_,after:=_,guard:=_ }) (v:=.pointer (some ⟨mb,6,none⟩)) rfl (by kernel_rfl) (by kernel_rfl) (by kernel_rfl) (fun _ _ _ h=>h) (Or.inl ⟨by rfl,fun w hSw=>by obtain⟨y0,y1,y2,y3⟩:=hSw;first | (go_simp;done) | go_simp⟩) (by assumption) ?_
 (try simp only [Act.put,List.setIfInBounds_toArray,List.set_cons_zero,List.set_cons_succ])
 refine wpAnyH_take (i:=9) (oi:={ dst:=some 25,op:=_,type:=_,pos:=_,after:=_,guard:=_ }) (v:=.agg #[.slice aZ nZ kZ,.slice (some ⟨gR,0,none⟩) nW kW]) rfl (by kernel_rfl) (by kernel_rfl) (by kernel_rfl) (fun _ _ _ h=>h) (Or.inl ⟨by rfl,fun w hSw=>by obtain⟨y0,y1,y2,y3⟩:=hSw;first | (go_simp;done) | go_simp⟩) (by assumption) ?_
 (try simp only [Act.put,List.setIfInBounds_toArray,List.set_cons_zero,List.set_cons_succ])
 refine wpAnyH_take (i:=10) (oi:={ dst:=some 26,op:=_,type:=_,pos:=_,after:=_,guard:=_ }) (v:=.slice (some ⟨gB,0,none⟩) nC cB) rfl (by kernel_rfl) (by kernel_rfl) (by kernel_rfl) (fun _ _ _ h=>h) (Or.inl ⟨by rfl,fun w hSw=>by obtain⟨y0,y1,y2,y3⟩:=hSw;first | (go_simp;done) | go_simp⟩) (by assumption) ?_
 (try simp only [Act.put,List.setIfInBounds_toArray,List.set_cons_zero,List.set_cons_succ])
 refine wpAnyH_ready (rs:=[5]) (by kernel_rfl) (by simp) ?_
 refine AllReadyH.cons rfl (fun K hK=>?_) AllReadyH.nil
 rw [if_pos (by rfl)]
 go_simp
 refine Calls.mono (HRL.out _ HD.out) ?_
 rintro e y1 ⟨gA,cA,rfl,hgA,hcA,ho⟩
 have G1:Hid ((∀ j,j≤nC→y1.cell? ⟨gA,j,none⟩=some (.int .i64 (stt rowsL C j:Int)))∧gA < y1.heap.size∧Only (fun _=>False) w y1∧y1.ownsRow w.heap.size 3 1 (.slice (some ⟨gB,0,none⟩) nC cB) nC (ints C.reverse)):=⟨hcA,hgA,HD.out.trans ho,L.own_only H2.out.1 (L_only (((Only.refl _ _).drew).trans ho)) (fun _ _ h=>h)⟩
 clear hcA hgA ho
 refine hK.out _ _ ((HCE.out _ G1.out.2.2.1).1) (fun hHeld=>?_)
 clear hK
 (try simp only [Act.put,List.setIfInBounds_toArray,List.set_cons_zero,List.set_cons_succ])
 refine wpAnyH_ready (rs:=[11]) (by kernel_rfl) (by simp) ?_
 refine AllReadyH.cons rfl (fun K hK=>?_) AllReadyH.nil
 rw [if_pos (by rfl)]
 go_simp
 refine Calls.mono (HRR.out _ _ _ _ G1.out.2.2.1 G1.out.2.2.2) ?_
 rintro e y2 ⟨gE,cE,rfl,hgE,hcE,ho⟩
 have G2:Hid ((∀ j,j≤nC→y2.cell? ⟨gA,j,none⟩=some (.int .i64 (stt rowsL C j:Int)))∧gA < y2.heap.size∧(∀ j,j≤nC→y2.cell? ⟨gE,j,none⟩=some (.int .i64 (stt rowsR C.reverse j:Int)))∧gE < y2.heap.size∧Only (fun _=>False) w y2):=⟨fun j hj=>(World.cell?_of_block (a:=⟨gA,j,none⟩) (ho.block _ G1.out.2.1 (fun h=>h))).trans (G1.out.1 j hj),Nat.lt_of_lt_of_le G1.out.2.1 ho.size,hcE,hgE,G1.out.2.2.1.trans ho⟩
 clear hcE hgE ho
 refine hK.out _ _ ((HCE.out _ G2.out.2.2.2.2).1) (fun hHeld=>?_)
 clear hK
 (try simp only [Act.put,List.setIfInBounds_toArray,List.set_cons_zero,List.set_cons_succ])
 refine wpAnyH_take (i:=12) (oi:={ dst:=some 6,op:=_,type:=_,pos:=_,after:=_,guard:=_ }) (v:=.slice (some ⟨gA,0,none⟩) M cA) rfl (by kernel_rfl) (by kernel_rfl) (by kernel_rfl) (fun _ _ _ h=>h) (Or.inl ⟨by rfl,fun w hSw=>by obtain⟨y0,y1,y2,y3⟩:=hSw;first | (go_simp;done) | go_simp⟩) (by assumption) ?_
 (try simp only [Act.put,List.setIfInBounds_toArray,List.set_cons_zero,List.set_cons_succ])
 refine wpAnyH_take (i:=13) (oi:={ dst:=some 7,op:=_,type:=_,pos:=_,after:=_,guard:=_ }) (v:=.slice (some ⟨gE,0,none⟩) M cE) rfl (by kernel_rfl) (by kernel_rfl) (by kernel_rfl) (fun _ _ _ h=>h) (Or.inl ⟨by rfl,fun w hSw=>by obtain⟨y0,y1,y2,y3⟩:=hSw;first | (go_simp;done) | go_simp⟩) (by assumption) ?_
 (try simp only [Act.put,List.setIfInBounds_toArray,List.set_cons_zero,List.set_cons_succ])
 refine wpAnyH_done (by kernel_rfl) ?_ _
 clear hHeld
 go_wp2_with fail
 go_loopg [33] nC (fun gh v wr=>∃ (k:Nat) (W:World),W=wr∧gh=nC-k∧k≤nC∧v=.int .i64 (k:Int)∧Ub W y2.heap.size (fst0 B k)∧Only (fun _=>False) y2 W)
 case atStart =>
  refine⟨0,_,rfl,rfl,Nat.zero_le _,rfl,?_,(Only.refl _ _).alloc _⟩
  rw [fst0_zero,HBT.out.2]
  unfold Ub
  rw [←made_u8]
  exact heap_alloc_new y2 _
 case round =>
  obtain⟨k,W,hW,rfl,hk,rfl,hU,ho⟩:=hrel
  subst hW
  have HU:Hid (Ub W y2.heap.size (fst0 B k)):=hU
  have HO:Hid (Only (fun _=>False) y2 W∧Only (fun _=>False) w W):=⟨ho,G2.out.2.2.2.2.trans ho⟩
  have lub:=hU.lt
  by_cases hlt:k < nC
  ·have t1:(k:Int) < (nC:Int):=by omega
   have hM1:=HM1.out
   obtain⟨m,hm⟩:∃ m,m=nC-k:=⟨_,rfl⟩
   have t2:(nC:Int)-(k:Int)=(m:Int):=by omega
   have t3:(m:Int) < (M:Int):=by omega
   have t5:(k:Int) < (M:Int):=by omega
   obtain⟨sL,sR,xL,xR,e1,e2,l1,l2,c1,c2,ex,lL,lR,vL,vR⟩:=HOU.out W k HO.out.2 hlt
   have c3:W.cell? ⟨gA,k,none⟩=some (.int .i64 (sL:Int)):=by rw [←e1];exact (World.cell?_of_block (a:=⟨gA,k,none⟩) (ho.block _ G2.out.2.1 (fun h=>h))).trans (G2.out.1 k (by omega))
   have c4:W.cell? ⟨gE,m,none⟩=some (.int .i64 (sR:Int)):=by rw [←e2,←hm];exact (World.cell?_of_block (a:=⟨gE,m,none⟩) (ho.block _ G2.out.2.2.2.1 (fun h=>h))).trans (G2.out.2.2.1 m (by omega))
   have lA:gA < W.heap.size:=Nat.lt_of_lt_of_le G2.out.2.1 ho.size
   have lE:gE < W.heap.size:=Nat.lt_of_lt_of_le G2.out.2.2.2.1 ho.size
   obtain⟨⟨c5,c6,c7,c8⟩,lm⟩:=HCE.out W HO.out.2
   have l1':(sL:Int) < (nY:Int):=by omega
   have l2':(sR:Int) < (nW:Int):=by omega
   have HEX:Hid (bits .and .u32 (xL:Int) (xR:Int)=(bx rowsL outsL rowsR outsR C k:Int)):=by
    rw [ex]
    exact u32_and_nat _ _ vL vR
   have hm5:m≤1000:=by omega
   have t13:IntKind.i64.wrap (m:Int)=(m:Int):=wrap_small _ (by omega) (by omega)
   clear hU ho hmk e1 e2 ex hM1 hm vL vR
   go_upto_region 8 with fail
   refine wp_region_held_drew (S:=(fun w'=>(w'.cell? ⟨mb,5,none⟩=some (.slice (some ⟨gL,0,none⟩) nY kY)∧w'.cell? ⟨mb,7,none⟩=some (.slice (some ⟨gR,0,none⟩) nW kW))∧(w'.cell? ⟨gA,k,none⟩=some (.int .i64 (sL:Int))∧w'.cell? ⟨gE,m,none⟩=some (.int .i64 (sR:Int)))∧w'.cell? ⟨gL,sL,none⟩=some (.int .u32 (xL:Int))∧w'.cell? ⟨gR,sR,none⟩=some (.int .u32 (xR:Int)))) (by kernel_rfl) ⟨⟨c6,c8⟩,⟨c3,c4⟩,c1,c2⟩ (fun hHeld=>?_)
   refine wpAnyH_take (i:=0) (oi:={ dst:=some 36,op:=_,type:=_,pos:=_,after:=_,guard:=_ }) (v:=.pointer (some ⟨mb,0,none⟩)) rfl (by kernel_rfl) (by kernel_rfl) (by kernel_rfl) (fun _ _ _ h=>h) (Or.inl ⟨by rfl,fun w hSw=>by obtain⟨⟨y0,y1⟩,⟨y2,y3⟩,y4,y5⟩:=hSw;first | (go_simp;done) | go_simp⟩) (by assumption) ?_
   (try simp only [Act.put,List.setIfInBounds_toArray,List.set_cons_zero,List.set_cons_succ])
   refine wpAnyH_take (i:=1) (oi:={ dst:=some 37,op:=_,type:=_,pos:=_,after:=_,guard:=_ }) (v:=.pointer (some ⟨mb,0,none⟩)) rfl (by kernel_rfl) (by kernel_rfl) (by kernel_rfl) (fun _ _ _ h=>h) (Or.inl ⟨by rfl,fun w hSw=>by obtain⟨⟨y0,y1⟩,⟨y2,y3⟩,y4,y5⟩:=hSw;first | (go_simp;done) | go_simp⟩) (by assumption) ?_
   (try simp only [Act.put,List.setIfInBounds_toArray,List.set_cons_zero,List.set_cons_succ])
   refine wpAnyH_take (i:=2) (oi:={ dst:=some 38,op:=_,type:=_,pos:=_,after:=_,guard:=_ }) (v:=.pointer (some ⟨mb,4,none⟩)) rfl (by kernel_rfl) (by kernel_rfl) (by kernel_rfl) (fun _ _ _ h=>h) (Or.inl ⟨by rfl,fun w hSw=>by obtain⟨⟨y0,y1⟩,⟨y2,y3⟩,y4,y5⟩:=hSw;first | (go_simp;done) | go_simp⟩) (by assumption) ?_
   (try simp only [Act.put,List.setIfInBounds_toArray,List.set_cons_zero,List.set_cons_succ])
   refine wpAnyH_take (i:=3) (oi:={ dst:=some 39,op:=_,type:=_,pos:=_,after:=_,guard:=_ }) (v:=.pointer (some ⟨mb,5,none⟩)) rfl (by kernel_rfl) (by kernel_rfl) (by kernel_rfl) (fun _ _ _ h=>h) (Or.inl ⟨by rfl,fun w hSw=>by obtain⟨⟨y0,y1⟩,⟨y2,y3⟩,y4,y5⟩:=hSw;first | (go_simp;done) | go_simp⟩) (by assumption) ?_
   (try simp only [Act.put,List.setIfInBounds_toArray,List.set_cons_zero,List.set_cons_succ])
   refine wpAnyH_take (i:=4) (oi:={ dst:=some 40,op:=_,type:=_,pos:=_,after:=_,guard:=_ }) (v:=.slice (some ⟨gL,0,none⟩) nY kY) rfl (by kernel_rfl) (by kernel_rfl) (by kernel_rfl) (fun _ _ _ h=>h) (Or.inl ⟨by rfl,fun w hSw=>by obtain⟨⟨y0,y1⟩,⟨y2,y3⟩,y4,y5⟩:=hSw;first | (go_simp;done) | go_simp⟩) (by assumption) ?_
   (try simp only [Act.put,List.setIfInBounds_toArray,List.set_cons_zero,List.set_cons_succ])
   refine wpAnyH_take (i:=5) (oi:={ dst:=some 41,op:=_,type:=_,pos:=_,after:=_,guard:=_ }) (v:=.slice (some ⟨gA,0,none⟩) M cA) rfl (by kernel_rfl) (by kernel_rfl) (by kernel_rfl) (fun _ _ _ h=>h) (Or.inl ⟨by rfl,fun w hSw=>by obtain⟨⟨y0,y1⟩,⟨y2,y3⟩,y4,y5⟩:=hSw;first | (go_simp;done) | go_simp⟩) (by assumption) ?_
   (try simp only [Act.put,List.setIfInBounds_toArray,List.set_cons_zero,List.set_cons_succ])
   refine wpAnyH_take (i:=6) (oi:={ dst:=some 42,op:=_,type:=_,pos:=_,after:=_,guard:=_ }) (v:=.int .i64 (k:Int)) rfl (by kernel_rfl) (by kernel_rfl) (by kernel_rfl) (fun _ _ _ h=>h) (Or.inl ⟨by rfl,fun w hSw=>by obtain⟨⟨y0,y1⟩,⟨y2,y3⟩,y4,y5⟩:=hSw;first | (go_simp;done) | go_simp⟩) (by assumption) ?_
   (try simp only [Act.put,List.setIfInBounds_toArray,List.set_cons_zero,List.set_cons_succ])
   refine wpAnyH_take (i:=7) (oi:={ dst:=some 43,op:=_,type:=_,pos:=_,after:=_,guard:=_ }) (v:=.pointer (some ⟨gA,k,none⟩)) rfl (by kernel_rfl) (by kernel_rfl) (by kernel_rfl) (fun _ _ _ h=>h) (Or.inl ⟨by rfl,fun w hSw=>by obtain⟨⟨y0,y1⟩,⟨y2,y3⟩,y4,y5⟩:=hSw;first | (go_simp;done) | go_simp⟩) (by assumption) ?_
   (try simp only [Act.put,List.setIfInBounds_toArray,List.set_cons_zero,List.set_cons_succ])
   refine wpAnyH_take (i:=8) (oi:={ dst:=some 44,op:=_,type:=_,pos:=_,after:=_,guard:=_ }) (v:=.int .i64 (sL:Int)) rfl (by kernel_rfl) (by kernel_rfl) (by kernel_rfl) (fun _ _ _ h=>h) (Or.inl ⟨by rfl,fun w hSw=>by obtain⟨⟨y0,y1⟩,⟨y2,y3⟩,y4,y5⟩:=hSw;first | (go_simp;done) | go_simp⟩) (by assumption) ?_
   (try simp only [Act.put,List.setIfInBounds_toArray,List.set_cons_zero,List.set_cons_succ])
   refine wpAnyH_take (i:=9) (oi:={ dst:=some 45,op:=_,type:=_,pos:=_,after:=_,guard:=_ }) (v:=.pointer (some ⟨gL,sL,none⟩)) rfl (by kernel_rfl) (by kernel_rfl) (by kernel_rfl) (fun _ _ _ h=>h) (Or.inl ⟨by rfl,fun w hSw=>by obtain⟨⟨y0,y1⟩,⟨y2,y3⟩,y4,y5⟩:=hSw;first | (go_simp;done) | go_simp⟩) (by assumption) ?_
   (try simp only [Act.put,List.setIfInBounds_toArray,List.set_cons_zero,List.set_cons_succ])
   refine wpAnyH_take (i:=10) (oi:={ dst:=some 46,op:=_,type:=_,pos:=_,after:=_,guard:=_ }) (v:=.int .u32 (xL:Int)) rfl (by kernel_rfl) (by kernel_rfl) (by kernel_rfl) (fun _ _ _ h=>h) (Or.inl ⟨by rfl,fun w hSw=>by obtain⟨⟨y0,y1⟩,⟨y2,y3⟩,y4,y5⟩:=hSw;first | (go_simp;done) | go_simp⟩) (by assumption) ?_
   (try simp only [Act.put,List.setIfInBounds_toArray,List.set_cons_zero,List.set_cons_succ])
   refine wpAnyH_take (i:=11) (oi:={ dst:=some 47,op:=_,type:=_,pos:=_,after:=_,guard:=_ }) (v:=.pointer (some ⟨mb,0,none⟩)) rfl (by kernel_rfl) (by kernel_rfl) (by kernel_rfl) (fun _ _ _ h=>h) (Or.inl ⟨by rfl,fun w hSw=>by obtain⟨⟨y0,y1⟩,⟨y2,y3⟩,y4,y5⟩:=hSw;first | (go_simp;done) | go_simp⟩) (by assumption) ?_
   (try simp only [Act.put,List.setIfInBounds_toArray,List.set_cons_zero,List.set_cons_succ])
   refine wpAnyH_take (i:=12) (oi:={ dst:=some 48,op:=_,type:=_,pos:=_,after:=_,guard:=_ }) (v:=.pointer (some ⟨mb,0,none⟩)) rfl (by kernel_rfl) (by kernel_rfl) (by kernel_rfl) (fun _ _ _ h=>h) (Or.inl ⟨by rfl,fun w hSw=>by obtain⟨⟨y0,y1⟩,⟨y2,y3⟩,y4,y5⟩:=hSw;first | (go_simp;done) | go_simp⟩) (by assumption) ?_
   (try simp only [Act.put,List.setIfInBounds_toArray,List.set_cons_zero,List.set_cons_succ])
   refine wpAnyH_take (i:=13) (oi:={ dst:=some 49,op:=_,type:=_,pos:=_,after:=_,guard:=_ }) (v:=.pointer (some ⟨mb,6,none⟩)) rfl (by kernel_rfl) (by kernel_rfl) (by kernel_rfl) (fun _ _ _ h=>h) (Or.inl ⟨by rfl,fun w hSw=>by obtain⟨⟨y0,y1⟩,⟨y2,y3⟩,y4,y5⟩:=hSw;first | (go_simp;done) | go_simp⟩) (by assumption) ?_
   (try simp only [Act.put,List.setIfInBounds_toArray,List.set_cons_zero,List.set_cons_succ])
   refine wpAnyH_take (i:=14) (oi:={ dst:=some 50,op:=_,type:=_,pos:=_,after:=_,guard:=_ }) (v:=.pointer (some ⟨mb,7,none⟩)) rfl (by kernel_rfl) (by kernel_rfl) (by kernel_rfl) (fun _ _ _ h=>h) (Or.inl ⟨by rfl,fun w hSw=>by obtain⟨⟨y0,y1⟩,⟨y2,y3⟩,y4,y5⟩:=hSw;first | (go_simp;done) | go_simp⟩) (by assumption) ?_
   (try simp only [Act.put,List.setIfInBounds_toArray,List.set_cons_zero,List.set_cons_succ])
   refine wpAnyH_take (i:=15) (oi:={ dst:=some 51,op:=_,type:=_,pos:=_,after:=_,guard:=_ }) (v:=.slice (some ⟨gR,0,none⟩) nW kW) rfl (by kernel_rfl) (by kernel_rfl) (by kernel_rfl) (fun _ _ _ h=>h) (Or.inl ⟨by rfl,fun w hSw=>by obtain⟨⟨y0,y1⟩,⟨y2,y3⟩,y4,y5⟩:=hSw;first | (go_simp;done) | go_simp⟩) (by assumption) ?_
   (try simp only [Act.put,List.setIfInBounds_toArray,List.set_cons_zero,List.set_cons_succ])
   refine wpAnyH_take (i:=16) (oi:={ dst:=some 52,op:=_,type:=_,pos:=_,after:=_,guard:=_ }) (v:=.slice (some ⟨gE,0,none⟩) M cE) rfl (by kernel_rfl) (by kernel_rfl) (by kernel_rfl) (fun _ _ _ h=>h) (Or.inl ⟨by rfl,fun w hSw=>by obtain⟨⟨y0,y1⟩,⟨y2,y3⟩,y4,y5⟩:=hSw;first | (go_simp;done) | go_simp⟩) (by assumption) ?_
   (try simp only [Act.put,List.setIfInBounds_toArray,List.set_cons_zero,List.set_cons_succ])
   refine wpAnyH_take (i:=17) (oi:={ dst:=some 53,op:=_,type:=_,pos:=_,after:=_,guard:=_ }) (v:=.slice (some ⟨gC,0,none⟩) nC cC) rfl (by kernel_rfl) (by kernel_rfl) (by kernel_rfl) (fun _ _ _ h=>h) (Or.inl ⟨by rfl,fun w hSw=>by obtain⟨⟨y0,y1⟩,⟨y2,y3⟩,y4,y5⟩:=hSw;first | (go_simp;done) | go_simp⟩) (by assumption) ?_
   (try simp only [Act.put,List.setIfInBounds_toArray,List.set_cons_zero,List.set_cons_succ])
   refine wpAnyH_take (i:=18) (oi:={ dst:=some 54,op:=_,type:=_,pos:=_,after:=_,guard:=_ }) (v:=.int .i64 (nC:Int)) rfl (by kernel_rfl) (by kernel_rfl) (by kernel_rfl) (fun _ _ _ h=>h) (Or.inl ⟨by rfl,fun w hSw=>by obtain⟨⟨y0,y1⟩,⟨y2,y3⟩,y4,y5⟩:=hSw;first | (go_simp;done) | go_simp⟩) (by assumption) ?_
   (try simp only [Act.put,List.setIfInBounds_toArray,List.set_cons_zero,List.set_cons_succ])
   refine wpAnyH_take (i:=19) (oi:={ dst:=some 55,op:=_,type:=_,pos:=_,after:=_,guard:=_ }) (v:=.int .i64 (k:Int)) rfl (by kernel_rfl) (by kernel_rfl) (by kernel_rfl) (fun _ _ _ h=>h) (Or.inl ⟨by rfl,fun w hSw=>by obtain⟨⟨y0,y1⟩,⟨y2,y3⟩,y4,y5⟩:=hSw;first | (go_simp;done) | go_simp⟩) (by assumption) ?_
   (try simp only [Act.put,List.setIfInBounds_toArray,List.set_cons_zero,List.set_cons_succ])
   refine wpAnyH_take (i:=20) (oi:={ dst:=some 56,op:=_,type:=_,pos:=_,after:=_,guard:=_ }) (v:=.int .i64 (m:Int)) rfl (by kernel_rfl) (by kernel_rfl) (by kernel_rfl) (fun _ _ _ h=>h) (Or.inl ⟨by rfl,fun w hSw=>by obtain⟨⟨y0,y1⟩,⟨y2,y3⟩,y4,y5⟩:=hSw;first | (go_simp;done) | go_simp⟩) (by assumption) ?_
   (try simp only [Act.put,List.setIfInBounds_toArray,List.set_cons_zero,List.set_cons_succ])
   refine wpAnyH_take (i:=21) (oi:={ dst:=some 57,op:=_,type:=_,pos:=_,after:=_,guard:=_ }) (v:=.pointer (some ⟨gE,m,none⟩)) rfl (by kernel_rfl) (by kernel_rfl) (by kernel_rfl) (fun _ _ _ h=>h) (Or.inl ⟨by rfl,fun w hSw=>by obtain⟨⟨y0,y1⟩,⟨y2,y3⟩,y4,y5⟩:=hSw;first | (go_simp;done) | go_simp⟩) (by assumption) ?_
   (try simp only [Act.put,List.setIfInBounds_toArray,List.set_cons_zero,List.set_cons_succ])
   refine wpAnyH_take (i:=22) (oi:={ dst:=some 58,op:=_,type:=_,pos:=_,after:=_,guard:=_ }) (v:=.int .i64 (sR:Int)) rfl (by kernel_rfl) (by kernel_rfl) (by kernel_rfl) (fun _ _ _ h=>h) (Or.inl ⟨by rfl,fun w hSw=>by obtain⟨⟨y0,y1⟩,⟨y2,y3⟩,y4,y5⟩:=hSw;first | (go_simp;done) | go_simp⟩) (by assumption) ?_
   (try simp only [Act.put,List.setIfInBounds_toArray,List.set_cons_zero,List.set_cons_succ])
   refine wpAnyH_take (i:=23) (oi:={ dst:=some 59,op:=_,type:=_,pos:=_,after:=_,guard:=_ }) (v:=.pointer (some ⟨gR,sR,none⟩)) rfl (by kernel_rfl) (by kernel_rfl) (by kernel_rfl) (fun _ _ _ h=>h) (Or.inl ⟨by rfl,fun w hSw=>by obtain⟨⟨y0,y1⟩,⟨y2,y3⟩,y4,y5⟩:=hSw;first | (go_simp;done) | go_simp⟩) (by assumption) ?_
   (try simp only [Act.put,List.setIfInBounds_toArray,List.set_cons_zero,List.set_cons_succ])
   refine wpAnyH_take (i:=24) (oi:={ dst:=some 60,op:=_,type:=_,pos:=_,after:=_,guard:=_ }) (v:=.int .u32 (xR:Int)) rfl (by kernel_rfl) (by kernel_rfl) (by kernel_rfl) (fun _ _ _ h=>h) (Or.inl ⟨by rfl,fun w hSw=>by obtain⟨⟨y0,y1⟩,⟨y2,y3⟩,y4,y5⟩:=hSw;first | (go_simp;done) | go_simp⟩) (by assumption) ?_
   (try simp only [Act.put,List.setIfInBounds_toArray,List.set_cons_zero,List.set_cons_succ])
   refine wpAnyH_take (i:=25) (oi:={ dst:=some 10,op:=_,type:=_,pos:=_,after:=_,guard:=_ }) (v:=.int .u32 (xL:Int)) rfl (by kernel_rfl) (by kernel_rfl) (by kernel_rfl) (fun _ _ _ h=>h) (Or.inl ⟨by rfl,fun w hSw=>by obtain⟨⟨y0,y1⟩,⟨y2,y3⟩,y4,y5⟩:=hSw;first | (go_simp;done) | go_simp⟩) (by assumption) ?_
   (try simp only [Act.put,List.setIfInBounds_toArray,List.set_cons_zero,List.set_cons_succ])
   refine wpAnyH_take (i:=26) (oi:={ dst:=some 11,op:=_,type:=_,pos:=_,after:=_,guard:=_ }) (v:=.int .u32 (xR:Int)) rfl (by kernel_rfl) (by kernel_rfl) (by kernel_rfl) (fun _ _ _ h=>h) (Or.inl ⟨by rfl,fun w hSw=>by obtain⟨⟨y0,y1⟩,⟨y2,y3⟩,y4,y5⟩:=hSw;first | (go_simp;done) | go_simp⟩) (by assumption) ?_
   (try simp only [Act.put,List.setIfInBounds_toArray,List.set_cons_zero,List.set_cons_succ])
   refine wpAnyH_done (by kernel_rfl) ?_ _
   clear hHeld
   go_wp2_with fail
   rw [HEX.out]
   refine Calls.mono (HF.out _ k HO.out.2.drew hlt) ?_
   rintro e w3 ⟨rfl,ho3⟩
   have H3:Hid (Only (fun _=>False) W w3):=((Only.refl _ _).drew).trans ho3
   have hU3:=HU.out.keep0 H3.out
   have HU3:Hid (Ub w3 y2.heap.size (fst0 B k)):=hU3
   obtain⟨z,hz⟩:∃ z,(fst0 B k)[k]?=some z:=⟨_,List.getElem?_eq_getElem (by rw [fst0_len (by rw [HBT.out.2];exact hk),HBT.out.2];exact hlt)⟩
   have u0:=hU3.cell hz
   have u1:w3.frozen? ⟨y2.heap.size,k,none⟩=false:=hU3.fz k
   have u2:=hU3.lt
   clear hU3 hz ho3
   go_wp2_with fail
   go_roundg (nC-(k+1))
   case measure=>omega
   case rel =>
    refine⟨k+1,_,rfl,rfl,by omega,by go_num,?_,(HO.out.1.trans H3.out).setNew (p:=⟨y2.heap.size,k,none⟩) (Nat.le_refl _) _⟩
    have hs:=HU3.out.set k (frs D (bx rowsL outsL rowsR outsR C k))
    rw [fst0_set (HBT.out.1 k hlt)] at hs
    exact hs
  ·have t2:decide ((k:Int) < (nC:Int))=false:=decide_eq_false (by omega)
   have hkn:k=nC:=by omega
   subst hkn
   clear hU ho hmk
   go_wp2_with fail
   go_ret
   refine⟨y2.heap.size,rfl,G2.out.2.2.2.2.size,?_,HO.out.2⟩
   have:=HU.out
   rw [show fst0 B k=B by have:=fst0_full B;rw [HBT.out.2] at this;exact this] at this
   exact this
end Go.Proofs.YtchaoonefiamdaaGreatDoor
