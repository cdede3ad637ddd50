/- Sg15 Sge Sgf -/
import Derived.Test.YtdlabakleldgaaaGreatDoorZ00
import Derived.Test.YtdlabakleldgaaaGreatDoorZ39
import Derived.Test.YtdlabakleldgaaaGreatDoorZ38
import Derived.Deep.RegionHeld3
set_option linter.unusedVariables false
set_option linter.unusedSimpArgs false
set_option maxRecDepth 100000
set_option maxHeartbeats 8000000
namespace Go.Proofs.YtdlabakleldgaaaGreatDoor
open Go.RowKit Go.Maps
open Rl (Ex)
theorem Lu {jn af n:Int}:∀(C:List Int) (i:Nat) (tL:Bool),∀p∈al jn af n C i tL,(i:Int)≤p∧p <(i:Int)+(C.length:Int)
 | [],i,tL,p,h=>by simp [al] at h
 | x::xs,i,tL,p,h=>by
  rw [al] at h
  split at h
  ·have:=Lu xs (i+1) tL p h
   simp only [List.length_cons]
   omega
  ·rcases List.mem_cons.1 h with rfl | h
   ·simp only [List.length_cons];omega
   ·have:=Lu xs (i+1) _ p h
    simp only [List.length_cons]
    omega
theorem DF {jn af n:Int}:∀(C:List Int) (i:Nat) (tL:Bool),(al jn af n C i tL).length≤C.length
 | [],i,tL=>by simp [al]
 | x::xs,i,tL=>by
  rw [al]
  split
  ·have:=DF (jn:=jn) (af:=af) (n:=n) xs (i+1) tL
   simp only [List.length_cons]
   omega
  ·have:=DF (jn:=jn) (af:=af) (n:=n) xs (i+1) (mM af (fF x n))
   simp only [List.length_cons]
   omega
def rn (base P B:List Int):Nat→List Int
 | 0=>base
 | k+1=>if k=0 then rn base P B k else (rn base P B k).set (P[k]?.getD 0).toNat (B[k]?.getD 0)
theorem yT (base P B:List Int):∀k,(rn base P B k).length=base.length
 | 0=>rfl
 | k+1=>by
  rw [rn]
  split
  ·exact yT base P B k
  ·rw [List.length_set];exact yT base P B k
theorem Lv {aD:List (List Nat)} {aA:List Nat} {aH:List (List Nat)} {aG:List Nat} {n:Nat} (hL:∀s x:Nat,aA[s]?=some x→x < 2 ^ n) (hn:n≤10) (C:List Int) (i:Nat):bx aD aA aH aG C i < 1024∧(0 < bx aD aA aH aG C i→tz (bx aD aA aH aG C i) < n):=by
 have h1:L.Hm.oR aA (stt aD C i) < 2 ^ n:=by
  unfold L.Hm.oR
  cases h:aA[stt aD C i]? with
  | none=>exact Nat.two_pow_pos n
  | some x=>exact hL _ _ h
 have h2:bx aD aA aH aG C i < 2 ^ n:=Nat.lt_of_le_of_lt Nat.and_le_left h1
 have h3:2 ^ n≤2 ^ 10:=Nat.pow_le_pow_right (by decide) hn
 have h4:(2:Nat) ^ 10=1024:=by decide
 refine⟨by omega,fun h0=>?_⟩
 obtain⟨_,_,_,h5⟩:=Qg h0 (by omega)
 by_cases hh:tz (bx aD aA aH aG C i) < n
 ·exact hh
 ·have h6:2 ^ n≤2 ^ tz (bx aD aA aH aG C i):=Nat.pow_le_pow_right (by decide) (by omega)
  rw [Nat.testBit_lt_two_pow (Nat.lt_of_lt_of_le h2 h6)] at h5
  cases h5
theorem LA {T:List Int} {cl:Nat} (h:∀x∈T,0≤x∧x <(cl:Int)) (h0:0 < cl) (C:List Int) (p:Int):0≤AZ T C p∧AZ T C p <(cl:Int):=by
 unfold AZ
 cases hx:T[(fF (C[p.toNat]?.getD 0) T.length).toNat]? with
 | none=>exact⟨Int.le_refl _,by show (0:Int) < _;omega⟩
 | some x=>exact h x (List.mem_of_getElem? hx)
theorem DI (mb:Nat) (jn af:Int) (hj0:0≤jn) (hj1:jn < 4294967296) (ha0:0≤af) (ha1:af < 4294967296) (bT cT:Nat) (gD nD cD:Nat) (lN lO rN rO:Value) (T D:List Int) (aD:List (List Nat)) (aA:List Nat) (aH:List (List Nat)) (aG:List Nat) (cl lo:Nat) (aC:Option Addr) (nC cC:Nat) (C:List Int) (w:World)
  (hM:Mz w mb jn af (.slice (some ⟨bT,0,none⟩) cl cT) (.slice (some ⟨gD,0,none⟩) nD cD) lN lO rN rO) (hTt:Ib w bT T) (Uu:T.length=cl) (WO:∀x∈T,0≤x∧x <(cl:Int)) (h0:0 < cl) (hcl:cl≤24) (hD:Ub w gD D) (hDn:D.length=nD) (hn:nD≤10) (Uw:L.Ra w lo (.agg #[lN,lO]) aD aA) (Lr:L.Hm.Ok aD aA cl) (hRR:L.Ra w lo (.agg #[rN,rO]) aH aG) (Lt:L.Hm.Ok aH aG cl)
  (hC:Iw w aC nC C) (JV:nC≤999) (hT:Tz w) (hu:(∀s x:Nat,aA[s]?=some x→x < 2 ^ nD)∧(∀s x:Nat,aG[s]?=some x→x < 2 ^ nD)):
  Calls Tryz.prog 8 #[.pointer (some ⟨mb,0,none⟩),.slice aC nC cC] w fun e w'=>∃g,e=.returned (.slice (some ⟨g,0,none⟩) (nC+1) (nC+1))∧w.heap.size≤g∧Ub w' g (rn (List.replicate nC 0++[2]) (al jn af cl C 0 false) (IC D aD aA aH aG ((al jn af cl C 0 false).map (AZ T C))) (al jn af cl C 0 false).length)∧Only (fun _=>False) w w':=by
 have FX:=hC.1
 obtain⟨P,hP⟩:∃P,P=al jn af cl C 0 false:=⟨_,rfl⟩
 obtain⟨nP,Qj⟩:∃n,n=P.length:=⟨_,rfl⟩
 obtain⟨Q,hQ⟩:∃Q,Q=P.map (AZ T C):=⟨_,rfl⟩
 obtain⟨B,hB⟩:∃B,B=IC D aD aA aH aG Q:=⟨_,rfl⟩
 have hPn:nP≤nC:=by rw [Qj,hP,←FX];exact DF C 0 false
 have Tv:∀p∈P,0≤p∧p <(nC:Int):=fun p hp=>by
  rw [hP] at hp
  have:=Lu C 0 false p hp
  rw [FX] at this
  omega
 have vz:2 ^ nD≤2 ^ 10:=Nat.pow_le_pow_right (by decide) hn
 have h9:(2:Nat) ^ 10=1024:=by decide
 have hQl:Q.length=nP:=by rw [hQ,List.length_map,Qj]
 have WQ:Hid (∀W',Only (fun _=>False) w W'→Calls Tryz.prog 13 #[.pointer (some ⟨mb,0,none⟩)] W' fun e w'=>e=.returned (.int .i64 (cl:Int))∧w'=W'):=fun W' ho=>d_ mb jn af _ cl cT _ _ _ _ _ W' ((ho.block mb (Array.getElem?_eq_some_iff.1 hM).1 (fun h=>h)).trans hM)
 have CJ:Hid (∀W',Only (fun _=>False) w W'→Calls Tryz.prog 14 #[.pointer (some ⟨mb,0,none⟩),.slice aC nC cC] W' fun e w'=>∃aP cP,e=.returned (.slice aP nP cP)∧w'.ownsRow W'.heap.size 3 1 (.slice aP nP cP) nP (ints P)∧Only (fun _=>False) W' w'):=fun W' ho=>by
  refine (G6 mb jn af hj0 hj1 ha0 ha1 _ cl cT _ _ _ _ _ C aC nC cC W' ((ho.block mb (Array.getElem?_eq_some_iff.1 hM).1 (fun h=>h)).trans hM) h0 hcl (hC.keep ho) (by omega)).mono ?_
  rintro e w' ⟨v,h1,h2,h3⟩
  rw [←hP,←Qj] at h2
  obtain⟨a,c,rfl⟩:=L.ah h2
  exact⟨a,c,h1,h2,h3⟩
 have EI:Hid (∀W' b aP cP,Only (fun _=>False) w W'→W'.ownsRow b 3 1 (.slice aP nP cP) nP (ints P)→Calls Tryz.prog 16 #[.pointer (some ⟨mb,0,none⟩),.slice aC nC cC,.slice aP nP cP] W' fun e w'=>∃g,e=.returned (.slice (some ⟨g,0,none⟩) nP nP)∧Ib w' g Q∧Only (fun _=>False) W' w'):=fun W' b aP cP ho hw=>by
  have hi:=(hTt.dG ho).iw
  rw [Uu] at hi
  refine (GZ mb jn af (some ⟨bT,0,none⟩) cl cT _ _ _ _ _ T C P aC nC cC aP nP cP W' ((ho.block mb (Array.getElem?_eq_some_iff.1 hM).1 (fun h=>h)).trans hM) hi h0 hcl (hC.keep ho) (by omega) (oq hw Qj) (by omega) Tv).mono ?_
  rintro e w' ⟨g,h1,_,h2,h3⟩
  exact⟨g,h1,by rw [hQ];exact h2,h3⟩
 have Ai:Hid (∀W' g,Only (fun _=>False) w W'→Ib W' g Q→Calls Tryz.prog 15 #[.pointer (some ⟨mb,0,none⟩),.slice (some ⟨g,0,none⟩) nP nP] W' fun e w'=>∃g',e=.returned (.slice (some ⟨g',0,none⟩) nP nP)∧W'.heap.size≤g'∧Ub w' g' B∧Only (fun _=>False) W' w'):=fun W' g ho hg=>by
  rw [hB]
  exact Bc mb jn af _ gD nD cD lN lO rN rO D aD aA aH aG cl lo g nP nP Q W' ((ho.block mb (Array.getElem?_eq_some_iff.1 hM).1 (fun h=>h)).trans hM) (hD.dG ho) hDn (by omega) (Uw.keep (fI ho)) Lr (hRR.keep (fI ho)) Lt hcl hg hQl (by omega) (fun c hc=>by rw [hQ] at hc;obtain⟨p,_,rfl⟩:=List.mem_map.1 hc;exact LA WO h0 C p) (fun i _=>Lv hu.1 hn Q i) (hT.keep ho) ⟨fun s x h=>by have:=hu.1 s x h;omega,fun s x h=>by have:=hu.2 s x h;omega⟩
 have HBl:Hid (B.length=nP):=by rw [hB];exact (E5 _ _ _ _ _ _).trans hQl
 have EX:=zH Tv
 have HNP:=zH Qj
 obtain⟨M,hM1⟩:∃M,M=nC+1:=⟨_,rfl⟩
 have Cf:=zH hM1
 rw [←hP,←hQ,←hB,←Qj,←hM1]
 have hm1:M≤1000:=by omega
 have mw:IntKind.i64.wrap ((nC:Int)+1)=(M:Int):=by rw [hM1];push_cast;exact wrap_small _ (by omega) (by omega)
 have t0:(nC:Int) <(M:Int):=by omega
 have z0:((cl:Int)==0)=false:=by rw [beq_eq_false_iff_ne];omega
 have HB0:Hid ((List.replicate M (0:Int)).set nC 2=List.replicate nC 0++[2]):=by
  show _=_
  rw [hM1,List.replicate_succ',List.set_append_right _ _ (by simp)]
  simp
 clear hM hTt Uu WO hD hDn Uw Lr hRR Lt hC hT hu FX hP Qj hQ hB Tv vz h9 hQl hM1 hcl hj0 hj1 ha0 ha1
 have hmk:=fun (w:World)=>run_make_row' (P:=Tryz.prog) 40 45 (.int .u8 0) 1 Tryz.underlying40 CW rfl .i64 .i64 M (by omega) (by omega) w
 go_enter Tryz.func8,Tryz.ntmps8
 go_upto_region 2 with fail
 obtain⟨gO,Yn⟩:∃x,x=w.heap.size:=⟨_,rfl⟩
 obtain⟨w0,hw0⟩:∃x,x=w.alloc (.cells (madeCells #[.int .u8 0] M) 45):=⟨_,rfl⟩
 have HG:=zH Yn
 have H0:Hid (Ub w0 gO (List.replicate M 0)∧Only (fun _=>False) w w0):=by
  rw [Yn,hw0]
  refine⟨?_,(Only.refl _ _).alloc _⟩
  unfold Ub
  rw [←yj]
  exact heap_alloc_new w _
 rw [←hw0,←Yn]
 clear hw0 Yn hmk
 have u0:w0.cell? ⟨gO,nC,none⟩=some (.int .u8 0):=H0.out.1.cell (by rw [List.getElem?_replicate,if_pos (by omega)])
 have u1:w0.frozen? ⟨gO,nC,none⟩=false:=H0.out.1.fz nC
 have u2:=H0.out.1.lt
 go_upto_region 3 with fail
 obtain⟨w1,hw1⟩:∃x,x=w0.setCell ⟨gO,nC,none⟩ (.int .u8 2):=⟨_,rfl⟩
 have H1:Hid (Ub w1 gO (List.replicate nC 0++[2])∧Only (fun _=>False) w w1):=by
  have h:=H0.out.1.set nC 2
  rw [HB0.out,←hw1] at h
  exact⟨h,by rw [hw1];exact H0.out.2.aS (p:=⟨gO,nC,none⟩) (Nat.le_of_eq HG.out.symm) _⟩
 rw [←hw1]
 clear hw1 u0 u1 u2 H0
 go_wp2_with fail
 refine Calls.mono (WQ.out _ H1.out.2) ?_
 rintro e w2 ⟨rfl,hw2⟩
 have hw2:=hw2.symm
 subst hw2
 go_wp2_with fail
 refine Calls.mono (CJ.out _ H1.out.2) ?_
 rintro e w2 ⟨aP,cP,rfl,hown,ho2⟩
 have H2:Hid (w2.ownsRow w1.heap.size 3 1 (.slice aP nP cP) nP (ints P)∧Only (fun _=>False) w1 w2∧Only (fun _=>False) w w2):=⟨hown,ho2,H1.out.2.trans ho2⟩
 clear hown ho2
 go_wp2_with fail
 refine Calls.mono (EI.out _ _ _ _ H2.out.2.2 H2.out.1) ?_
 rintro e w3 ⟨gQ,rfl,hib,ho3⟩
 have H3:Hid (Ib w3 gQ Q∧Only (fun _=>False) w2 w3∧Only (fun _=>False) w w3):=⟨hib,ho3,H2.out.2.2.trans ho3⟩
 clear hib ho3
 go_wp2_with fail
 refine Calls.mono (Ai.out _ _ H3.out.2.2 H3.out.1) ?_
 rintro e w4 ⟨gB,rfl,hgB,hub,bI⟩
 have hl1:gO < w1.heap.size:=H1.out.1.lt
 have H4:Hid (Ub w4 gB B∧Ub w4 gO (List.replicate nC 0++[2])∧gO < gB∧Iw w4 aP nP P∧Only (fun _=>False) w w4∧w4.ownsRow w1.heap.size 3 1 (.slice aP nP cP) nP (ints P)∧gO < w1.heap.size):=by
  have h14:=H2.out.2.1.trans (H3.out.2.1.trans bI)
  have vz:=H3.out.2.1.trans bI
  have hw:=L.ai H2.out.1 (fI vz) (fun _ _ h=>h)
  exact⟨hub,H1.out.1.dG h14,Nat.lt_of_lt_of_le hl1 (Nat.le_trans (Nat.le_trans H2.out.2.1.size H3.out.2.1.size) hgB),oq hw HNP.out,H3.out.2.2.trans bI,hw,hl1⟩
 clear hub bI hgB hl1 H1 H2 H3 WQ CJ EI Ai
 go_wp2_with fail
 go_loopg [31] nP (fun gh v wr=>∃(k:Nat) (W:World),W=wr∧gh=nP - k∧k≤nP∧v=.int .i64 (k:Int)∧Ub W gO (rn (List.replicate nC 0++[2]) P B k)∧Only (·=gO) w4 W)
 case atStart=>exact⟨0,_,rfl,rfl,Nat.zero_le _,rfl,H4.out.2.1,Only.refl _ _⟩
 case round=>
  obtain⟨k,W,hW,rfl,hk,rfl,hU,ho⟩:=hrel
  subst hW
  have HU:=zH hU
  have HO:=zH ho
  have lub:=hU.lt
  by_cases hlt:k < nP
  ·have t1:(k:Int) <(nP:Int):=by omega
   obtain⟨bv,hbv⟩:∃x,B[k]?=some x:=⟨_,List.getElem?_eq_getElem (by rw [HBl.out];exact hlt)⟩
   have hBW:Ub W gB B:=(ho.block gB H4.out.1.lt (fun e=>by have:=H4.out.2.2.1;omega)).trans H4.out.1
   have c0:=hBW.cell hbv
   have lB:=hBW.lt
   obtain⟨pk,hpk⟩:∃x,P[k]?=some x:=⟨_,List.getElem?_eq_getElem (by rw [←HNP.out];exact hlt)⟩
   have hpi:=EX.out pk (List.mem_of_getElem? hpk)
   obtain⟨pn,rfl⟩:∃n:Nat,pk=(n:Int):=⟨pk.toNat,by omega⟩
   have t3:(pn:Int) <(M:Int):=by have:=Cf.out;omega
   have t4:pn < M:=by omega
   obtain⟨gP,cP2,hsl,hgP,_,hcP⟩:=L.bU H4.out.2.2.2.2.2.1 (by omega)
   injection hsl with hs1 hs2 hs3
   subst hs1
   subst hs3
   have WR:gP≠gO:=fun e=>by
    have h1:w1.heap.size≤gP:=(L.bz H4.out.2.2.2.2.2.1 rfl).1
    have h2:=H4.out.2.2.2.2.2.2
    omega
   have c1:W.cell? ⟨gP,k,none⟩=some (.int .i64 (pn:Int)):=(World.cell?_of_block (a:=⟨gP,k,none⟩) (ho.block gP hgP WR)).trans (hcP k _ (by unfold ints;rw [List.getElem?_map,hpk];rfl))
   have lP:gP < W.heap.size:=Nat.lt_of_lt_of_le hgP ho.size
   obtain⟨z,hz⟩:∃z,(rn (List.replicate nC 0++[2]) P B k)[pn]?=some z:=⟨_,List.getElem?_eq_getElem (by rw [yT];simp;have:=Cf.out;omega)⟩
   have u0:=hU.cell hz
   have u1:W.frozen? ⟨gO,pn,none⟩=false:=hU.fz pn
   have HST:Hid (rn (List.replicate nC 0++[2]) P B (k+1)=if k=0 then rn (List.replicate nC 0++[2]) P B k else (rn (List.replicate nC 0++[2]) P B k).set pn bv):=by
    show _=_
    rw [rn,hpk,hbv]
    rfl
   clear hU ho hbv hBW hpk hpi hcP WR hz hgP
   by_cases hk0:k=0
   ·subst hk0
    go_wp2_with fail
    go_roundg (nP - 1)
    case measure=>omega
    case rel=>exact⟨1,_,rfl,rfl,by omega,by go_num,by rw [HST.out];exact HU.out,HO.out⟩
   ·have t5:(0:Int) <(k:Int):=by omega
    have t6:0 < k:=by omega
    go_wp2_with fail
    go_roundg (nP -(k+1))
    case measure=>omega
    case rel=>
     refine⟨k+1,_,rfl,rfl,by omega,by go_num,?_,HO.out.setCell (p:=⟨gO,pn,none⟩) rfl _⟩
     rw [HST.out,if_neg hk0]
     exact HU.out.set pn bv
  ·have t2:decide ((k:Int) <(nP:Int))=false:=decide_eq_false (by omega)
   have hkn:k=nP:=by omega
   subst hkn
   clear hU ho
   go_wp2_with fail
   go_ret
   exact⟨gO,rfl,Nat.le_of_eq HG.out.symm,HU.out,((H4.out.2.2.2.2.1.mono (S':=(·=gO)) (fun _ h=>h.elim)).trans HO.out).old (fun b hb=>Or.inl (by rw [hb];exact Nat.le_of_eq HG.out.symm))⟩
theorem E8:∀(es:List Ex) (l:List Au.Nd) (p:Au.Pl) (C8:List Au.Nd) (p1:Au.Pl),Au.all es l p=some (C8,p1)→C8.length=l.length+es.length
 | [],l,p,C8,p1,h=>by
  rw [Au.all] at h
  injection h with h
  injection h with h _
  rw [h];rfl
 | e::es,l,p,C8,p1,h=>by
  rw [Au.all] at h
  cases hn:Au.node e p with
  | none=>rw [hn] at h;cases h
  | some q=>
   obtain⟨x,p2⟩:=q
   rw [hn] at h
   have:=E8 es (l++[x]) p2 C8 p1 h
   rw [this,List.length_append,List.length_cons,List.length_cons,List.length_nil]
   omega
theorem LB (l:List Au.Nd) (s:Nat):∀n,(List.range n).foldl (fun m r=>match l[r]? with | some x=>if x.none=true∨s &&& x.last≠0 then m ||| 2 ^ r else m | none=>m) 0 < 2 ^ n
 | 0=>by simp
 | n+1=>by
  rw [List.range_succ,List.foldl_append]
  have h:=LB l s n
  have h2:(2:Nat) ^ n < 2 ^(n+1):=Nat.pow_lt_pow_right (by decide) (Nat.lt_succ_self n)
  simp only [List.foldl_cons,List.foldl_nil]
  split
  ·split
   ·exact Nat.or_lt_two_pow (by omega) h2
   ·omega
  ·omega
theorem si (p:Au.Pl) (l:List Au.Nd) (first classes:Nat):∀(f n:Nat) (found:List Nat) (nx:List (List Nat)) (o:List Nat) (r:List (List Nat) × List Nat),Au.states p l first classes f n found nx o=some r→(∀x∈o,x < 2 ^ l.length)→∀x∈r.2,x < 2 ^ l.length
 | 0,n,found,nx,o,r,h,ho=>by
  rw [Au.states] at h
  injection h with h
  rw [←h];exact ho
 | f+1,n,found,nx,o,r,h,ho=>by
  rw [Au.states] at h
  split at h
  ·injection h with h
   rw [←h];exact ho
  ·split at h
   ·cases h
   ·exact si p l first classes f _ _ _ _ r h (fun x hx=>by
     rcases List.mem_append.1 hx with hx | hx
     ·exact ho x hx
     ·rw [List.mem_singleton.1 hx]
      exact LB l _ _)
theorem G9 {es:List Ex} {classes:Int} {nx:List (List Nat)} {o:List Nat} (h:Au.make es classes=.ok (nx,o)) (s:Nat) (hs:s < nx.length):oX o s < 2 ^ es.length:=by
 unfold Au.make at h
 split at h
 ·cases h
 ·split at h
  ·cases h
  ·rename_i nd p ha
   split at h
   ·cases h
   ·rename_i r hst
    injection h with h
    have hl:=E8 _ _ _ _ _ ha
    rw [List.length_nil,Nat.zero_add] at hl
    unfold oX
    cases hx:o[s]? with
    | none=>exact Nat.two_pow_pos _
    | some x=>
     have:=si _ _ _ _ _ _ _ _ _ r hst (fun x hx=>by cases hx) x (by rw [h];exact List.mem_of_getElem? hx)
     rw [hl] at this
     exact this
theorem Bd {es:List Ex} {cl:Nat} {nx:List (List Nat)} {o:List Nat} (h:Au.make es (cl:Int)=.ok (nx,o)) {rows:List (List Nat)} {outs r:List Nat} (hl:L.Hm.iq nx.length cl (dX nx) (oX o) rows outs r) (s x:Nat) (hx:outs[s]?=some x):x < 2 ^ es.length:=by
 have hs:=(List.getElem?_eq_some_iff.1 hx).1
 have h1:=hl.len
 have h2:=hl.mK
 obtain⟨q,hq⟩:∃q,r[s]?=some q:=⟨_,List.getElem?_eq_getElem (by omega)⟩
 obtain⟨h3,h4⟩:=hl.st s q hq
 rw [hx] at h4
 injection h4 with h4
 rw [h4]
 exact G9 h q h3
def bxm (nL:List (List Nat)) (oL:List Nat) (nR:List (List Nat)) (oR:List Nat) (Q:List Int) (i:Nat):Nat:=oX oL (((Q.take i).map Int.toNat).foldl (dX nL) 0) &&& oX oR (((Q.reverse.take (Q.length - i)).map Int.toNat).foldl (dX nR) 0)
def Yo (D:List Int) (nL:List (List Nat)) (oL:List Nat) (nR:List (List Nat)) (oR:List Nat) (Q:List Int):List Int:=(List.range Q.length).map (fun i=>OG D (bxm nL oL nR oR Q i))
theorem LC {n cl:Nat} {nx:List (List Nat)} {o:List Nat} {rows:List (List Nat)} {outs r:List Nat} (h:L.Hm.iq n cl (dX nx) (oX o) rows outs r) (Q:List Int) (hQ:∀c∈Q,0≤c∧c <(cl:Int)) (i:Nat) (hi:i≤Q.length):L.Hm.oR outs (stt rows Q i)=oX o (((Q.take i).map Int.toNat).foldl (dX nx) 0):=by
 have hw:∀c∈(Q.take i).map Int.toNat,c < cl:=fun c hc=>by
  obtain⟨x,hx,rfl⟩:=List.mem_map.1 hc
  have:=hQ x (List.mem_of_mem_take hx)
  omega
 unfold stt
 rw [rq rows Q 0 i hi]
 exact (h.from _ hw 0 0 h.zero).symm
theorem Tw {nn mm cl:Nat} {nL:List (List Nat)} {oL:List Nat} {nR:List (List Nat)} {oR:List Nat} {aD:List (List Nat)} {aA rL:List Nat} {aH:List (List Nat)} {aG rR:List Nat} (hL:L.Hm.iq nn cl (dX nL) (oX oL) aD aA rL) (hR:L.Hm.iq mm cl (dX nR) (oX oR) aH aG rR) (D Q:List Int) (hQ:∀c∈Q,0≤c∧c <(cl:Int)):IC D aD aA aH aG Q=Yo D nL oL nR oR Q:=by
 unfold IC Yo
 apply List.map_congr_left
 intro i hi
 have hi:=List.mem_range.1 hi
 unfold bx bxm
 rw [LC hL Q hQ i (by omega),LC hR Q.reverse (fun c hc=>hQ c (List.mem_reverse.1 hc)) (Q.length - i) (by rw [List.length_reverse];omega)]
def rowOf (s:Rl.St) (cl:Nat) (C:List Int):List Int:=(al s.join s.after cl C 0 false).map (AZ (s.au.map (fun x=>fF x cl)) C)
def iG (s:Rl.St) (cl:Nat) (nL:List (List Nat)) (oL:List Nat) (nR:List (List Nat)) (oR:List Nat) (nC:Nat) (C:List Int):List Int:=rn (List.replicate nC 0++[2]) (al s.join s.after cl C 0 false) (Yo (s.list.map (·.does)) nL oL nR oR (rowOf s cl C)) (al s.join s.after cl C 0 false).length
theorem oz (s:Rl.St) (cl n:Nat) (nL:List (List Nat)) (oL:List Nat) (nR:List (List Nat)) (oR:List Nat) (lo mb:Nat) (aC:Option Addr) (nC cC:Nat) (C:List Int) (w:World)
  (hm:qC w lo mb s cl n nL oL nR oR) (hL:Au.make (s.list.map (·.left)) (cl:Int)=.ok (nL,oL)) (hR:Au.make (Au.turns (s.list.map (·.right))) (cl:Int)=.ok (nR,oR)) (hn:n=s.list.length) (hn9:n≤10) (htl:s.au.length=cl) (h0:0 < cl) (hj:0≤s.join∧s.join < 4294967296) (ha:0≤s.after∧s.after < 4294967296)
  (hC:Iw w aC nC C) (JV:nC≤999) (hT:Tz w):
  Calls Tryz.prog 8 #[.pointer (some ⟨mb,0,none⟩),.slice aC nC cC] w fun e w'=>∃g,e=.returned (.slice (some ⟨g,0,none⟩) (nC+1) (nC+1))∧w.heap.size≤g∧Ub w' g (iG s cl nL oL nR oR nC C)∧Only (fun _=>False) w w':=by
 obtain⟨bT,bD,lN,lO,rN,rO,aD,aA,rL,aH,aG,rR,h1,h2,h3,h4,h5,h6,h7⟩:=hm
 have hcl:cl≤24:=(xk hL).2.2.2.1
 have WO:∀x∈s.au.map (fun x=>fF x cl),0≤x∧x <(cl:Int):=fun x hx=>by
  obtain⟨y,_,rfl⟩:=List.mem_map.1 hx
  exact CL (by omega)
 have hu:(∀q x:Nat,aA[q]?=some x→x < 2 ^ n)∧(∀q x:Nat,aG[q]?=some x→x < 2 ^ n):=by
  refine⟨fun q x h=>?_,fun q x h=>?_⟩
  ·have:=Bd hL h5 q x h
   rw [List.length_map,←hn] at this
   exact this
  ·have:=Bd hR h7 q x h
   rw [Au.jc,List.length_map,←hn] at this
   exact this
 refine (DI mb s.join s.after hj.1 hj.2 ha.1 ha.2 bT cl bD n n lN lO rN rO _ _ aD aA aH aG cl lo aC nC cC C w h1 h2 (by rw [List.length_map];exact htl) WO h0 hcl h3 (by rw [List.length_map];exact hn.symm) hn9 h4 h5.ok h6 h7.ok hC JV hT hu).mono ?_
 rintro e w' ⟨g,q1,q2,q3,q4⟩
 refine⟨g,q1,q2,?_,q4⟩
 unfold iG
 rw [←Tw h5 h7 _ _ (fun c hc=>by obtain⟨p,_,rfl⟩:=List.mem_map.1 hc;exact LA WO h0 C p)]
 exact q3
theorem p_ (gA gB n m cA cB:Nat) (A B:List Int) (w:World) (hA:Ub w gA A) (hB:Ub w gB B) (hn:A.length=n) (hm:B.length=m) (hn1:n≤100000) (hm1:m≤100000):
  Calls Tryz.prog 7 #[.slice (some ⟨gA,0,none⟩) n cA,.slice (some ⟨gB,0,none⟩) m cB] w fun e w'=>e=.returned (.bool (decide (A=B)))∧Only (fun _=>False) w w':=by
 have HA:Hid (Ub w gA A∧A.length=n):=⟨hA,hn⟩
 have HB:Hid (Ub w gB B∧B.length=m):=⟨hB,hm⟩
 by_cases hnm:n=m
 ·subst hnm
  clear hA hB hn hm
  have z1:((n:Int) !=(n:Int))=false:=by simp
  go_enter Tryz.func7,Tryz.ntmps7
  go_wp2_with fail
  go_loopg [5] n (fun gh v wr=>∃(k:Nat) (W:World),W=wr∧gh=n - k∧k≤n∧v=.int .i64 (k:Int)∧A.take k=B.take k∧Only (fun _=>False) w W)
  case atStart=>exact⟨0,_,rfl,rfl,Nat.zero_le _,rfl,rfl,Only.refl _ _⟩
  case round=>
   obtain⟨k,W,hW,rfl,hk,rfl,he,ho⟩:=hrel
   subst hW
   have HO:=zH ho
   have HE:=zH he
   by_cases hlt:k < n
   ·have t1:(k:Int) <(n:Int):=by omega
    obtain⟨x,hx⟩:∃x,A[k]?=some x:=⟨_,List.getElem?_eq_getElem (by rw [HA.out.2];exact hlt)⟩
    obtain⟨y,hy⟩:∃y,B[k]?=some y:=⟨_,List.getElem?_eq_getElem (by rw [HB.out.2];exact hlt)⟩
    have c0:=(HA.out.1.dG ho).cell hx
    have c1:=(HB.out.1.dG ho).cell hy
    have l0:=(HA.out.1.dG ho).lt
    have l1:=(HB.out.1.dG ho).lt
    have Uv:Hid (A[k]?=some x∧B[k]?=some y):=⟨hx,hy⟩
    by_cases hxy:x=y
    ·subst hxy
     have z2:(x !=x)=false:=by simp
     clear he ho hx hy
     go_wp2_with fail
     go_region_held3 (fun w'=>w'.cell? ⟨gA,k,none⟩=some (.int .u8 x)∧w'.cell? ⟨gB,k,none⟩=some (.int .u8 x)) (exact⟨c0,c1⟩) (fail)
     all_goals
      go_wp2_with fail
      go_roundg (n -(k+1))
      case measure=>omega
      case rel=>
       refine⟨k+1,_,rfl,rfl,by omega,by go_num,?_,HO.out.drew⟩
       rw [List.take_add_one,List.take_add_one,HE.out,Uv.out.1,Uv.out.2]
    ·have z2:(x !=y)=true:=by simp [hxy]
     have zX:Hid (decide (A=B)=false):=by
      show _=_
      apply decide_eq_false
      intro e
      subst e
      have:=Uv.out.1.symm.trans Uv.out.2
      injection this with this
      exact hxy this
     clear he ho hx hy
     go_wp2_with fail
     go_region_held3 (fun w'=>w'.cell? ⟨gA,k,none⟩=some (.int .u8 x)∧w'.cell? ⟨gB,k,none⟩=some (.int .u8 y)) (exact⟨c0,c1⟩) (fail)
     all_goals
      go_wp2_with fail
      go_ret
      exact⟨by rw [zX.out];rfl,HO.out.drew⟩
   ·have t2:decide ((k:Int) <(n:Int))=false:=decide_eq_false (by omega)
    have hkn:k=n:=by omega
    subst hkn
    have HEQ:Hid (decide (A=B)=true):=by
     show _=_
     apply decide_eq_true
     have h:=HE.out
     rw [List.take_of_length_le (by rw [HA.out.2];exact Nat.le_refl _),List.take_of_length_le (by rw [HB.out.2];exact Nat.le_refl _)] at h
     exact h
    clear he ho
    go_wp2_with fail
    go_ret
    exact⟨by rw [HEQ.out];rfl,HO.out⟩
 ·have z1:((n:Int) !=(m:Int))=true:=by simp;omega
  have z2:¬(n:Int)=(m:Int):=by omega
  have zX:Hid (decide (A=B)=false):=by
   show _=_
   apply decide_eq_false
   intro e
   subst e
   exact hnm (HA.out.2.symm.trans HB.out.2)
  clear hA hB hn hm
  go_enter Tryz.func7,Tryz.ntmps7
  go_wp2_with fail
  go_ret
  exact⟨by rw [zX.out];rfl,Only.refl _ _⟩
def tx1:Rl.Str:=[99,108,97,115,115,32,65,32,66,59,32,107,101,101,112,32,65,32,47,32,66,59]
def tx2:Rl.Str:=[99,108,97,115,115,32,88,32,74,59,32,106,111,105,110,32,74,32,47,32,88,59]
def G_:Rl.St:=⟨[[65],[66]],[0,1],0,0,[([65],1),([66],2)],2,[⟨0,.mk 1 1 [],.mk 1 2 []⟩]⟩
def Ha:Rl.St:=⟨[[88],[74]],[0,1],2,1,[([88],1),([74],2)],0,[]⟩
theorem LD:Rl.plain tx1=.ok G_:=by kernel_rfl
theorem Tx:Rl.plain tx2=.ok Ha:=by kernel_rfl
theorem WS:Au.make (G_.list.map (·.left)) ((2:Nat):Int)=.ok ([[1,0],[1,0]],[0,1]):=by kernel_rfl
theorem aap:Au.make (G_.list.map (·.right)) ((2:Nat):Int)=.ok ([[0,1],[0,1]],[0,1]):=by kernel_rfl
theorem WT:Au.make (Au.turns (G_.list.map (·.right))) ((2:Nat):Int)=.ok ([[0,1],[0,1]],[0,1]):=by kernel_rfl
theorem WU:Au.make (Ha.list.map (·.left)) ((2:Nat):Int)=.ok ([[0,0]],[0]):=by kernel_rfl
theorem aaq:Au.make (Ha.list.map (·.right)) ((2:Nat):Int)=.ok ([[0,0]],[0]):=by kernel_rfl
theorem WV:Au.make (Au.turns (Ha.list.map (·.right))) ((2:Nat):Int)=.ok ([[0,0]],[0]):=by kernel_rfl
theorem E9 {S:ByteArray} {s:Rl.St} {cl n:Nat} {nL:List (List Nat)} {oL:List Nat} {nR:List (List Nat)} {oR:List Nat} {n1:List (List Nat)} {o1:List Nat} (hL:Au.make (s.list.map (·.left)) (cl:Int)=.ok (nL,oL)) (h1:Au.make (s.list.map (·.right)) (cl:Int)=.ok (n1,o1)) (hR:Au.make (Au.turns (s.list.map (·.right))) (cl:Int)=.ok (nR,oR)) {w:World} {e:Ending} {w':World} (h:Tq w s cl n e w'):∃mb,e=.returned (.tuple #[.pointer (some ⟨mb,0,none⟩),.agg #[.int .i64 0,.int .i64 0]])∧qC w' (w.heap.size+1) mb s cl n nL oL nR oR∧Only (fun _=>False) w w':=by
 rcases h with ⟨c,_,_,hb,_⟩ | ⟨mb,a,b,c,d,h2,h3,h4,h5,h6⟩
 ·rcases hb with ⟨k,hb⟩ | ⟨k,hb⟩ | ⟨k,hb⟩
  ·rw [hL] at hb;cases hb
  ·rw [h1] at hb;cases hb
  ·rw [hR] at hb;cases hb
 ·rw [hL] at h3
  rw [hR] at h4
  injection h3 with h3
  injection h3 with h3a h3b
  injection h4 with h4
  injection h4 with h4a h4b
  subst h3a h3b h4a h4b
  exact⟨mb,h2,h5,h6⟩
theorem WW (w:World):Calls Tryz.prog 10 #[.string ⟨tx1.toArray⟩] w fun e w'=>∃mb,e=.returned (.tuple #[.pointer (some ⟨mb,0,none⟩),.agg #[.int .i64 0,.int .i64 0]])∧qC w' (w.heap.size+1) mb G_ 2 1 [[1,0],[1,0]] [0,1] [[0,1],[0,1]] [0,1]∧Only (fun _=>False) w w':=by
 refine (kQ _ G_ 2 1 w (Zu LD (by decide)) rfl rfl (by decide) (fun r hr=>?_) (fun r hr=>?_)).mono (fun e w' h=>E9 (S:=⟨tx1.toArray⟩) WS aap WT h)
 ·have:=(uD (Zu LD (by decide))).2 r hr
  refine⟨this.1,this.2,?_⟩
  simp [G_] at hr
  subst hr
  simp [wY,dK]
 ·simp [G_] at hr
  subst hr
  simp [Au.dp,Au.fO]
theorem WX (w:World):Calls Tryz.prog 10 #[.string ⟨tx2.toArray⟩] w fun e w'=>∃mb,e=.returned (.tuple #[.pointer (some ⟨mb,0,none⟩),.agg #[.int .i64 0,.int .i64 0]])∧qC w' (w.heap.size+1) mb Ha 2 0 [[0,0]] [0] [[0,0]] [0]∧Only (fun _=>False) w w':=
 (kQ _ Ha 2 0 w (Zu Tx (by decide)) rfl rfl (by decide) (fun r hr=>by simp [Ha] at hr) (fun r hr=>by simp [Ha] at hr)).mono (fun e w' h=>E9 (S:=⟨tx2.toArray⟩) WU aaq WV h)
theorem aar (lo mb g:Nat) (w:World) (hm:qC w lo mb G_ 2 1 [[1,0],[1,0]] [0,1] [[0,1],[0,1]] [0,1]) (hC:Iw w (some ⟨g,0,none⟩) 3 [0,1,0]) (hT:Tz w):Calls Tryz.prog 8 #[.pointer (some ⟨mb,0,none⟩),.slice (some ⟨g,0,none⟩) 3 3] w fun e w'=>∃g,e=.returned (.slice (some ⟨g,0,none⟩) 4 4)∧Ub w' g [0,0,1,2]∧Only (fun _=>False) w w':=by
 refine (oz G_ 2 1 _ _ _ _ lo mb (some ⟨g,0,none⟩) 3 3 [0,1,0] w hm WS WT rfl (by decide) rfl (by decide) (by decide) (by decide) hC (by decide) hT).mono ?_
 rintro e w' ⟨g,h1,_,h2,h5⟩
 rw [show iG G_ 2 [[1,0],[1,0]] [0,1] [[0,1],[0,1]] [0,1] 3 [0,1,0]=[0,0,1,2] by kernel_rfl] at h2
 exact⟨g,h1,h2,h5⟩
theorem aas (lo mb g:Nat) (w:World) (hm:qC w lo mb Ha 2 0 [[0,0]] [0] [[0,0]] [0]) (hC:Iw w (some ⟨g,0,none⟩) 5 [1,0,1,1,0]) (hT:Tz w):Calls Tryz.prog 8 #[.pointer (some ⟨mb,0,none⟩),.slice (some ⟨g,0,none⟩) 5 5] w fun e w'=>∃g,e=.returned (.slice (some ⟨g,0,none⟩) 6 6)∧Ub w' g [0,1,0,0,1,2]∧Only (fun _=>False) w w':=by
 refine (oz Ha 2 0 _ _ _ _ lo mb (some ⟨g,0,none⟩) 5 5 [1,0,1,1,0] w hm WU WV rfl (by decide) rfl (by decide) (by decide) (by decide) hC (by decide) hT).mono ?_
 rintro e w' ⟨g,h1,_,h2,h5⟩
 rw [show iG Ha 2 [[0,0]] [0] [[0,0]] [0] 5 [1,0,1,1,0]=[0,1,0,0,1,2] by kernel_rfl] at h2
 exact⟨g,h1,h2,h5⟩
theorem DJ (w:World) (hT:Tz w):Calls Tryz.prog 5 #[] w fun e w'=>e=.returned (.bool true)∧Only (fun _=>False) w w':=by
 have HR1:Hid (∀W,Calls Tryz.prog 10 #[.string { data:=#[99,108,97,115,115,32,65,32,66,59,32,107,101,101,112,32,65,32,47,32,66,59]}] W fun e w'=>∃mb,e=.returned (.tuple #[.pointer (some ⟨mb,0,none⟩),.agg #[.int .i64 0,.int .i64 0]])∧qC w' (W.heap.size+1) mb G_ 2 1 [[1,0],[1,0]] [0,1] [[0,1],[0,1]] [0,1]∧Only (fun _=>False) W w'):=fun W=>WW W
 have HR2:Hid (∀W,Calls Tryz.prog 10 #[.string { data:=#[99,108,97,115,115,32,88,32,74,59,32,106,111,105,110,32,74,32,47,32,88,59]}] W fun e w'=>∃mb,e=.returned (.tuple #[.pointer (some ⟨mb,0,none⟩),.agg #[.int .i64 0,.int .i64 0]])∧qC w' (W.heap.size+1) mb Ha 2 0 [[0,0]] [0] [[0,0]] [0]∧Only (fun _=>False) W w'):=fun W=>WX W
 have HT:=zH hT
 clear hT
 go_enter Tryz.func5,Tryz.ntmps5
 go_wp2_with fail
 refine Calls.mono (HR1.out _) ?_
 rintro e w1 ⟨m1,rfl,hm1,ho1⟩
 have H1:Hid (qC w1 (w.heap.size+1) m1 G_ 2 1 [[1,0],[1,0]] [0,1] [[0,1],[0,1]] [0,1]∧Only (fun _=>False) w w1):=⟨hm1,ho1⟩
 clear hm1 ho1
 go_upto_region 2 with fail
 obtain⟨f1,hf1⟩:∃x,x=w1.heap.size:=⟨_,rfl⟩
 obtain⟨w2,hw2⟩:∃x,x=w1.alloc (.cells #[.int .i64 0,.int .i64 0] 49):=⟨_,rfl⟩
 have H2:Hid (w2.heap[f1]?=some (.cells #[.int .i64 0,.int .i64 0] 49 (0,0))∧Only (fun _=>False) w1 w2):=by rw [hw2,hf1];exact⟨heap_alloc_new _ _,(Only.refl _ _).alloc _⟩
 rw [←hw2,←hf1]
 clear hw2 hf1
 go_wp2_with fail
 refine Calls.mono (HR2.out _) ?_
 rintro e w3 ⟨m2,rfl,hm2,ho3⟩
 have H3:Hid (qC w3 (w2.heap.size+1) m2 Ha 2 0 [[0,0]] [0] [[0,0]] [0]∧Only (fun _=>False) w2 w3):=⟨hm2,ho3⟩
 clear hm2 ho3
 go_upto_region 3 with fail
 obtain⟨f2,hf2⟩:∃x,x=w3.heap.size:=⟨_,rfl⟩
 obtain⟨w4,hw4⟩:∃x,x=w3.alloc (.cells #[.int .i64 0,.int .i64 0] 49):=⟨_,rfl⟩
 have H4:Hid (w4.heap[f2]?=some (.cells #[.int .i64 0,.int .i64 0] 49 (0,0))∧Only (fun _=>False) w3 w4):=by rw [hw4,hf2];exact⟨heap_alloc_new _ _,(Only.refl _ _).alloc _⟩
 rw [←hw4,←hf2]
 clear hw4 hf2
 have H24:Hid (Only (fun _=>False) w2 w4∧Only (fun _=>False) w w4):=by
  have h:=H3.out.2.trans H4.out.2
  exact⟨h,H1.out.2.trans (H2.out.2.trans h)⟩
 have hq1:w4.heap[f1]?=some (.cells #[.int .i64 0,.int .i64 0] 49 (0,0)):=(H24.out.1.block f1 (Array.getElem?_eq_some_iff.1 H2.out.1).1 (fun h=>h)).trans H2.out.1
 have hq2:=H4.out.1
 have c0:w4.cell? ⟨f1,0,none⟩=some (.int .i64 0):=ae hq1
 have c1:w4.cell? ⟨f2,0,none⟩=some (.int .i64 0):=ae hq2
 have l1:f1 < w4.heap.size:=(Array.getElem?_eq_some_iff.1 hq1).1
 have l2:f2 < w4.heap.size:=(Array.getElem?_eq_some_iff.1 hq2).1
 clear hq1 hq2
 go_upto_region 5 with fail
 go_wp2_with fail
 obtain⟨r1,hr1⟩:∃x,x=w4.heap.size:=⟨_,rfl⟩
 obtain⟨w5,FZ⟩:∃x,x=w4.alloc (.cells #[.int .i64 0,.int .i64 1,.int .i64 0] 3):=⟨_,rfl⟩
 have H5:Hid (Ib w5 r1 [0,1,0]∧Only (fun _=>False) w4 w5∧Only (fun _=>False) w w5):=by rw [FZ,hr1];exact⟨heap_alloc_new w4 _,(Only.refl _ _).alloc _,H24.out.2.alloc _⟩
 rw [←FZ,←hr1]
 clear FZ hr1 c0 c1 l1 l2
 refine Calls.mono (aar _ _ r1 _ (H1.out.1.keep (H2.out.2.trans (H24.out.1.trans H5.out.2.1))) H5.out.1.iw (HT.out.keep H5.out.2.2)) ?_
 rintro e w6 ⟨g1,rfl,hg1,qM⟩
 have H6:Hid (Ub w6 g1 [0,0,1,2]∧Only (fun _=>False) w4 w6∧Only (fun _=>False) w w6):=⟨hg1,H5.out.2.1.trans qM,H5.out.2.2.trans qM⟩
 clear hg1 qM
 go_wp2_with fail
 obtain⟨r2,hr2⟩:∃x,x=w6.heap.size:=⟨_,rfl⟩
 obtain⟨w7,hw7⟩:∃x,x=w6.alloc (.cells #[.int .u8 0,.int .u8 0,.int .u8 1,.int .u8 2] 45):=⟨_,rfl⟩
 have H7:Hid (Ub w7 r2 [0,0,1,2]∧Only (fun _=>False) w6 w7):=by rw [hw7,hr2];exact⟨heap_alloc_new w6 _,(Only.refl _ _).alloc _⟩
 rw [←hw7,←hr2]
 clear hw7 hr2
 refine Calls.mono (p_ g1 r2 4 4 4 4 [0,0,1,2] [0,0,1,2] _ (H6.out.1.dG H7.out.2) H7.out.1 rfl rfl (by decide) (by decide)) ?_
 rintro e w8 ⟨rfl,ho8⟩
 have H8:Hid (Only (fun _=>False) w4 w8∧Only (fun _=>False) w w8):=⟨H6.out.2.1.trans (H7.out.2.trans ho8),H6.out.2.2.trans (H7.out.2.trans ho8)⟩
 clear ho8
 rw [show decide (([0,0,1,2]:List Int)=[0,0,1,2])=true by decide]
 go_wp2_with fail
 obtain⟨r3,hr3⟩:∃x,x=w8.heap.size:=⟨_,rfl⟩
 obtain⟨w9,hw9⟩:∃x,x=w8.alloc (.cells #[.int .i64 1,.int .i64 0,.int .i64 1,.int .i64 1,.int .i64 0] 3):=⟨_,rfl⟩
 have H9:Hid (Ib w9 r3 [1,0,1,1,0]∧Only (fun _=>False) w4 w9∧Only (fun _=>False) w w9):=by rw [hw9,hr3];exact⟨heap_alloc_new w8 _,H8.out.1.alloc _,H8.out.2.alloc _⟩
 rw [←hw9,←hr3]
 clear hw9 hr3
 refine Calls.mono (aas _ _ r3 _ (H3.out.1.keep (H4.out.2.trans H9.out.2.1)) H9.out.1.iw (HT.out.keep H9.out.2.2)) ?_
 rintro e wa ⟨g2,rfl,hg2,hoa⟩
 have HA:Hid (Ub wa g2 [0,1,0,0,1,2]∧Only (fun _=>False) w wa):=⟨hg2,H9.out.2.2.trans hoa⟩
 clear hg2 hoa
 go_wp2_with fail
 obtain⟨r4,hr4⟩:∃x,x=wa.heap.size:=⟨_,rfl⟩
 obtain⟨wb,hwb⟩:∃x,x=wa.alloc (.cells #[.int .u8 0,.int .u8 1,.int .u8 0,.int .u8 0,.int .u8 1,.int .u8 2] 45):=⟨_,rfl⟩
 have HB:Hid (Ub wb r4 [0,1,0,0,1,2]∧Only (fun _=>False) wa wb):=by rw [hwb,hr4];exact⟨heap_alloc_new wa _,(Only.refl _ _).alloc _⟩
 rw [←hwb,←hr4]
 clear hwb hr4
 refine Calls.mono (p_ g2 r4 6 6 6 6 [0,1,0,0,1,2] [0,1,0,0,1,2] _ (HA.out.1.dG HB.out.2) HB.out.1 rfl rfl (by decide) (by decide)) ?_
 rintro e wc ⟨rfl,hoc⟩
 have HC:Hid (Only (fun _=>False) w wc):=HA.out.2.trans (HB.out.2.trans hoc)
 clear hoc
 rw [show decide (([0,1,0,0,1,2]:List Int)=[0,1,0,0,1,2])=true by decide]
 go_wp2_with fail
 go_ret
 exact⟨rfl,HC.out⟩
end Go.Proofs.YtdlabakleldgaaaGreatDoor
