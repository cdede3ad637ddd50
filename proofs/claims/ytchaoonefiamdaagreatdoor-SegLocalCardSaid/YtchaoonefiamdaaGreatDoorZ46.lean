/- Sg15 Sg16 Sg17 -/
import Derived.Test.YtchaoonefiamdaaGreatDoorZ45
import Derived.Deep.RegionHeld3
namespace Go.Proofs.YtchaoonefiamdaaGreatDoor
open Go.RowKit Go.Maps
set_option linter.unusedVariables false
set_option linter.unusedSimpArgs false
open Rl (Ex)
theorem al_in {jn af n:Int}:∀ (C:List Int) (i:Nat) (aft:Bool),∀ p∈al jn af n C i aft,(i:Int)≤p∧p < (i:Int)+(C.length:Int)
 | [],i,aft,p,h=>by simp [al] at h
 | x::xs,i,aft,p,h=>by
  rw [al] at h
  split at h
  ·have:=al_in xs (i+1) aft p h
   simp only [List.length_cons]
   omega
  ·rcases List.mem_cons.1 h with rfl | h
   ·simp only [List.length_cons];omega
   ·have:=al_in xs (i+1) _ p h
    simp only [List.length_cons]
    omega
theorem al_len {jn af n:Int}:∀ (C:List Int) (i:Nat) (aft:Bool),(al jn af n C i aft).length≤C.length
 | [],i,aft=>by simp [al]
 | x::xs,i,aft=>by
  rw [al]
  split
  ·have:=al_len (jn:=jn) (af:=af) (n:=n) xs (i+1) aft
   simp only [List.length_cons]
   omega
  ·have:=al_len (jn:=jn) (af:=af) (n:=n) xs (i+1) (bitI af (clO x n))
   simp only [List.length_cons]
   omega
def rn (base P B:List Int):Nat→List Int
 | 0=>base
 | k+1=>if k=0 then rn base P B k else (rn base P B k).set (P[k]?.getD 0).toNat (B[k]?.getD 0)
theorem rn_len (base P B:List Int):∀ k,(rn base P B k).length=base.length
 | 0=>rfl
 | k+1=>by
  rw [rn]
  split
  ·exact rn_len base P B k
  ·rw [List.length_set];exact rn_len base P B k
theorem bx_small {rowsL:List (List Nat)} {outsL:List Nat} {rowsR:List (List Nat)} {outsR:List Nat} {n:Nat} (hL:∀ s x:Nat,outsL[s]?=some x→x < 2 ^ n) (hn:n≤9) (C:List Int) (i:Nat):bx rowsL outsL rowsR outsR C i < 512∧(0 < bx rowsL outsL rowsR outsR C i→tz (bx rowsL outsL rowsR outsR C i) < n):=by
 have h1:L.Hm.oR outsL (stt rowsL C i) < 2 ^ n:=by
  unfold L.Hm.oR
  cases h:outsL[stt rowsL C i]? with
  | none=>exact Nat.two_pow_pos n
  | some x=>exact hL _ _ h
 have h2:bx rowsL outsL rowsR outsR C i < 2 ^ n:=Nat.lt_of_le_of_lt Nat.and_le_left h1
 have h3:2 ^ n≤2 ^ 9:=Nat.pow_le_pow_right (by decide) hn
 have h4:(2:Nat) ^ 9=512:=by decide
 refine⟨by omega,fun h0=>?_⟩
 obtain⟨_,_,_,h5⟩:=tz_of h0 (by omega)
 by_cases hh:tz (bx rowsL outsL rowsR outsR C i) < n
 ·exact hh
 ·have h6:2 ^ n≤2 ^ tz (bx rowsL outsL rowsR outsR C i):=Nat.pow_le_pow_right (by decide) (by omega)
  rw [Nat.testBit_lt_two_pow (Nat.lt_of_lt_of_le h2 h6)] at h5
  cases h5
theorem tk1_in {T:List Int} {cl:Nat} (h:∀ x∈T,0≤x∧x < (cl:Int)) (h0:0 < cl) (C:List Int) (p:Int):0≤tk1 T C p∧tk1 T C p < (cl:Int):=by
 unfold tk1
 cases hx:T[(clO (C[p.toNat]?.getD 0) T.length).toNat]? with
 | none=>exact⟨Int.le_refl _,by show (0:Int) < _;omega⟩
 | some x=>exact h x (List.mem_of_getElem? hx)
set_option maxRecDepth 100000 in
set_option maxHeartbeats 8000000 in
theorem segRun_any (mb:Nat) (jn af:Int) (hj0:0≤jn) (hj1:jn < 4294967296) (ha0:0≤af) (ha1:af < 4294967296) (bT cT:Nat) (gD nD cD:Nat) (lN lO rN rO:Value) (T D:List Int) (rowsL:List (List Nat)) (outsL:List Nat) (rowsR:List (List Nat)) (outsR:List Nat) (cl lo:Nat) (aC:Option Addr) (nC cC:Nat) (C:List Int) (w:World)
  (hM:Mz w mb jn af (.slice (some ⟨bT,0,none⟩) cl cT) (.slice (some ⟨gD,0,none⟩) nD cD) lN lO rN rO) (hTt:Ib w bT T) (hTl:T.length=cl) (hTi:∀ x∈T,0≤x∧x < (cl:Int)) (h0:0 < cl) (hcl:cl≤24) (hD:Ub w gD D) (hDn:D.length=nD) (hn:nD≤9) (hRL:L.Ra w lo (.agg #[lN,lO]) rowsL outsL) (hOL:L.Hm.Ok rowsL outsL cl) (hRR:L.Ra w lo (.agg #[rN,rO]) rowsR outsR) (hOR:L.Hm.Ok rowsR outsR cl)
  (hC:Iw w aC nC C) (hnC:nC≤999) (hT:Tz w) (hu:(∀ s x:Nat,outsL[s]?=some x→x < 2 ^ nD)∧(∀ s x:Nat,outsR[s]?=some x→x < 2 ^ nD)) :
  Calls Tryz.prog 7 #[.pointer (some ⟨mb,0,none⟩),.slice aC nC cC] w fun e w'=>∃ g,e=.returned (.slice (some ⟨g,0,none⟩) (nC+1) (nC+1))∧w.heap.size≤g∧Ub w' g (rn (List.replicate nC 0++[2]) (al jn af cl C 0 false) (btw D rowsL outsL rowsR outsR ((al jn af cl C 0 false).map (tk1 T C))) (al jn af cl C 0 false).length)∧Only (fun _=>False) w w':=by
 have hCl:=hC.1
 obtain⟨P,hP⟩:∃ P,P=al jn af cl C 0 false:=⟨_,rfl⟩
 obtain⟨nP,hnP⟩:∃ n,n=P.length:=⟨_,rfl⟩
 obtain⟨Q,hQ⟩:∃ Q,Q=P.map (tk1 T C):=⟨_,rfl⟩
 obtain⟨B,hB⟩:∃ B,B=btw D rowsL outsL rowsR outsR Q:=⟨_,rfl⟩
 have hPn:nP≤nC:=by rw [hnP,hP,←hCl];exact al_len C 0 false
 have hPin:∀ p∈P,0≤p∧p < (nC:Int):=fun p hp=>by
  rw [hP] at hp
  have:=al_in C 0 false p hp
  rw [hCl] at this
  omega
 have h24:2 ^ nD≤2 ^ 9:=Nat.pow_le_pow_right (by decide) hn
 have h9:(2:Nat) ^ 9=512:=by decide
 have hQl:Q.length=nP:=by rw [hQ,List.length_map,hnP]
 have HCLS:Hid (∀ W',Only (fun _=>False) w W'→Calls Tryz.prog 11 #[.pointer (some ⟨mb,0,none⟩)] W' fun e w'=>e=.returned (.int .i64 (cl:Int))∧w'=W'):=fun W' ho=>classesM_any mb jn af _ cl cT _ _ _ _ _ W' ((ho.block mb (Array.getElem?_eq_some_iff.1 hM).1 (fun h=>h)).trans hM)
 have HAL:Hid (∀ W',Only (fun _=>False) w W'→Calls Tryz.prog 12 #[.pointer (some ⟨mb,0,none⟩),.slice aC nC cC] W' fun e w'=>∃ aP cP,e=.returned (.slice aP nP cP)∧w'.ownsRow W'.heap.size 3 1 (.slice aP nP cP) nP (ints P)∧Only (fun _=>False) W' w'):=fun W' ho=>by
  refine (alone_any mb jn af hj0 hj1 ha0 ha1 _ cl cT _ _ _ _ _ C aC nC cC W' ((ho.block mb (Array.getElem?_eq_some_iff.1 hM).1 (fun h=>h)).trans hM) h0 hcl (hC.keep ho) (by omega)).mono ?_
  rintro e w' ⟨v,h1,h2,h3⟩
  rw [←hP,←hnP] at h2
  obtain⟨a,c,rfl⟩:=L.own_form h2
  exact⟨a,c,h1,h2,h3⟩
 have HTK:Hid (∀ W' b aP cP,Only (fun _=>False) w W'→W'.ownsRow b 3 1 (.slice aP nP cP) nP (ints P)→Calls Tryz.prog 14 #[.pointer (some ⟨mb,0,none⟩),.slice aC nC cC,.slice aP nP cP] W' fun e w'=>∃ g,e=.returned (.slice (some ⟨g,0,none⟩) nP nP)∧Ib w' g Q∧Only (fun _=>False) W' w'):=fun W' b aP cP ho hw=>by
  have hi:=(hTt.keep0 ho).iw
  rw [hTl] at hi
  refine (taken_any mb jn af (some ⟨bT,0,none⟩) cl cT _ _ _ _ _ T C P aC nC cC aP nP cP W' ((ho.block mb (Array.getElem?_eq_some_iff.1 hM).1 (fun h=>h)).trans hM) hi h0 hcl (hC.keep ho) (by omega) (iw_own hw hnP) (by omega) hPin).mono ?_
  rintro e w' ⟨g,h1,_,h2,h3⟩
  exact⟨g,h1,by rw [hQ];exact h2,h3⟩
 have HBW:Hid (∀ W' g,Only (fun _=>False) w W'→Ib W' g Q→Calls Tryz.prog 13 #[.pointer (some ⟨mb,0,none⟩),.slice (some ⟨g,0,none⟩) nP nP] W' fun e w'=>∃ g',e=.returned (.slice (some ⟨g',0,none⟩) nP nP)∧W'.heap.size≤g'∧Ub w' g' B∧Only (fun _=>False) W' w'):=fun W' g ho hg=>by
  rw [hB]
  exact between_any mb jn af _ gD nD cD lN lO rN rO D rowsL outsL rowsR outsR cl lo g nP nP Q W' ((ho.block mb (Array.getElem?_eq_some_iff.1 hM).1 (fun h=>h)).trans hM) (hD.keep0 ho) hDn (by omega) (hRL.keep (L_only ho)) hOL (hRR.keep (L_only ho)) hOR hcl hg hQl (by omega) (fun c hc=>by rw [hQ] at hc;obtain⟨p,_,rfl⟩:=List.mem_map.1 hc;exact tk1_in hTi h0 C p) (fun i _=>bx_small hu.1 hn Q i) (hT.keep ho) ⟨fun s x h=>by have:=hu.1 s x h;omega,fun s x h=>by have:=hu.2 s x h;omega⟩
 have HBl:Hid (B.length=nP):=by rw [hB];exact (btw_len _ _ _ _ _ _).trans hQl
 have HPI:Hid (∀ p∈P,0≤p∧p < (nC:Int)):=hPin
 have HNP:Hid (nP=P.length):=hnP
 obtain⟨M,hM1⟩:∃ M,M=nC+1:=⟨_,rfl⟩
 have HM1:Hid (M=nC+1):=hM1
 rw [←hP,←hQ,←hB,←hnP,←hM1]
 have hm1:M≤1000:=by omega
 have mw:IntKind.i64.wrap ((nC:Int)+1)=(M:Int):=by rw [hM1];push_cast;exact wrap_small _ (by omega) (by omega)
 have t0:(nC:Int) < (M:Int):=by omega
 have z0:((cl:Int) == 0)=false:=by rw [beq_eq_false_iff_ne];omega
 have HB0:Hid ((List.replicate M (0:Int)).set nC 2=List.replicate nC 0++[2]):=by
  show _=_
  rw [hM1,List.replicate_succ',List.set_append_right _ _ (by simp)]
  simp
 clear hM hTt hTl hTi hD hDn hRL hOL hRR hOR hC hT hu hCl hP hnP hQ hB hPin h24 h9 hQl hM1 hcl hj0 hj1 ha0 ha1
 have hmk:=fun (w:World)=>run_make_row' (P:=Tryz.prog) 36 25 (.int .u8 0) 1 Tryz.underlying36 info25 rfl .i64 .i64 M (by omega) (by omega) w
 go_enter Tryz.func7,Tryz.ntmps7
 go_upto_region 2 with fail
 obtain⟨gO,hgO⟩:∃ x,x=w.heap.size:=⟨_,rfl⟩
 obtain⟨w0,hw0⟩:∃ x,x=w.alloc (.cells (madeCells #[.int .u8 0] M) 25):=⟨_,rfl⟩
 have HG:Hid (gO=w.heap.size):=hgO
 have H0:Hid (Ub w0 gO (List.replicate M 0)∧Only (fun _=>False) w w0):=by
  rw [hgO,hw0]
  refine⟨?_,(Only.refl _ _).alloc _⟩
  unfold Ub
  rw [←made_u8]
  exact heap_alloc_new w _
 rw [←hw0,←hgO]
 clear hw0 hgO hmk
 have u0:w0.cell? ⟨gO,nC,none⟩=some (.int .u8 0):=H0.out.1.cell (by rw [List.getElem?_replicate,if_pos (by omega)])
 have u1:w0.frozen? ⟨gO,nC,none⟩=false:=H0.out.1.fz nC
 have u2:=H0.out.1.lt
 go_upto_region 3 with fail
 obtain⟨w1,hw1⟩:∃ x,x=w0.setCell ⟨gO,nC,none⟩ (.int .u8 2):=⟨_,rfl⟩
 have H1:Hid (Ub w1 gO (List.replicate nC 0++[2])∧Only (fun _=>False) w w1):=by
  have h:=H0.out.1.set nC 2
  rw [HB0.out,←hw1] at h
  exact⟨h,by rw [hw1];exact H0.out.2.setNew (p:=⟨gO,nC,none⟩) (Nat.le_of_eq HG.out.symm) _⟩
 rw [←hw1]
 clear hw1 u0 u1 u2 H0
 go_wp2_with fail
 refine Calls.mono (HCLS.out _ H1.out.2) ?_
 rintro e w2 ⟨rfl,hw2⟩
 have hw2:=hw2.symm
 subst hw2
 go_wp2_with fail
 refine Calls.mono (HAL.out _ H1.out.2) ?_
 rintro e w2 ⟨aP,cP,rfl,hown,ho2⟩
 have H2:Hid (w2.ownsRow w1.heap.size 3 1 (.slice aP nP cP) nP (ints P)∧Only (fun _=>False) w1 w2∧Only (fun _=>False) w w2):=⟨hown,ho2,H1.out.2.trans ho2⟩
 clear hown ho2
 go_wp2_with fail
 refine Calls.mono (HTK.out _ _ _ _ H2.out.2.2 H2.out.1) ?_
 rintro e w3 ⟨gQ,rfl,hib,ho3⟩
 have H3:Hid (Ib w3 gQ Q∧Only (fun _=>False) w2 w3∧Only (fun _=>False) w w3):=⟨hib,ho3,H2.out.2.2.trans ho3⟩
 clear hib ho3
 go_wp2_with fail
 refine Calls.mono (HBW.out _ _ H3.out.2.2 H3.out.1) ?_
 rintro e w4 ⟨gB,rfl,hgB,hub,ho4⟩
 have hl1:gO < w1.heap.size:=H1.out.1.lt
 have H4:Hid (Ub w4 gB B∧Ub w4 gO (List.replicate nC 0++[2])∧gO < gB∧Iw w4 aP nP P∧Only (fun _=>False) w w4∧w4.ownsRow w1.heap.size 3 1 (.slice aP nP cP) nP (ints P)∧gO < w1.heap.size):=by
  have h14:=H2.out.2.1.trans (H3.out.2.1.trans ho4)
  have h24:=H3.out.2.1.trans ho4
  have hw:=L.own_only H2.out.1 (L_only h24) (fun _ _ h=>h)
  exact⟨hub,H1.out.1.keep0 h14,Nat.lt_of_lt_of_le hl1 (Nat.le_trans (Nat.le_trans H2.out.2.1.size H3.out.2.1.size) hgB),iw_own hw HNP.out,H3.out.2.2.trans ho4,hw,hl1⟩
 clear hub ho4 hgB hl1 H1 H2 H3 HCLS HAL HTK HBW
 go_wp2_with fail
 go_loopg [31] nP (fun gh v wr=>∃ (k:Nat) (W:World),W=wr∧gh=nP-k∧k≤nP∧v=.int .i64 (k:Int)∧Ub W gO (rn (List.replicate nC 0++[2]) P B k)∧Only (·=gO) w4 W)
 case atStart=>exact⟨0,_,rfl,rfl,Nat.zero_le _,rfl,H4.out.2.1,Only.refl _ _⟩
 case round =>
  obtain⟨k,W,hW,rfl,hk,rfl,hU,ho⟩:=hrel
  subst hW
  have HU:Hid (Ub W gO (rn (List.replicate nC 0++[2]) P B k)):=hU
  have HO:Hid (Only (·=gO) w4 W):=ho
  have lub:=hU.lt
  by_cases hlt:k < nP
  ·have t1:(k:Int) < (nP:Int):=by omega
   obtain⟨bv,hbv⟩:∃ x,B[k]?=some x:=⟨_,List.getElem?_eq_getElem (by rw [HBl.out];exact hlt)⟩
   have hBW:Ub W gB B:=(ho.block gB H4.out.1.lt (fun e=>by have:=H4.out.2.2.1;omega)).trans H4.out.1
   have c0:=hBW.cell hbv
   have lB:=hBW.lt
   obtain⟨pk,hpk⟩:∃ x,P[k]?=some x:=⟨_,List.getElem?_eq_getElem (by rw [←HNP.out];exact hlt)⟩
   have hpi:=HPI.out pk (List.mem_of_getElem? hpk)
   obtain⟨pn,rfl⟩:∃ n:Nat,pk=(n:Int):=⟨pk.toNat,by omega⟩
   have t3:(pn:Int) < (M:Int):=by have:=HM1.out;omega
   have t4:pn < M:=by omega
   obtain⟨gP,cP2,hsl,hgP,_,hcP⟩:=L.own_cells H4.out.2.2.2.2.2.1 (by omega)
   injection hsl with hs1 hs2 hs3
   subst hs1
   subst hs3
   have hgne:gP≠gO:=fun e=>by
    have h1:w1.heap.size≤gP:=(L.own_own H4.out.2.2.2.2.2.1 rfl).1
    have h2:=H4.out.2.2.2.2.2.2
    omega
   have c1:W.cell? ⟨gP,k,none⟩=some (.int .i64 (pn:Int)):=(World.cell?_of_block (a:=⟨gP,k,none⟩) (ho.block gP hgP hgne)).trans (hcP k _ (by unfold ints;rw [List.getElem?_map,hpk];rfl))
   have lP:gP < W.heap.size:=Nat.lt_of_lt_of_le hgP ho.size
   obtain⟨z,hz⟩:∃ z,(rn (List.replicate nC 0++[2]) P B k)[pn]?=some z:=⟨_,List.getElem?_eq_getElem (by rw [rn_len];simp;have:=HM1.out;omega)⟩
   have u0:=hU.cell hz
   have u1:W.frozen? ⟨gO,pn,none⟩=false:=hU.fz pn
   have HST:Hid (rn (List.replicate nC 0++[2]) P B (k+1)=if k=0 then rn (List.replicate nC 0++[2]) P B k else (rn (List.replicate nC 0++[2]) P B k).set pn bv):=by
    show _=_
    rw [rn,hpk,hbv]
    rfl
   clear hU ho hbv hBW hpk hpi hcP hgne hz hgP
   by_cases hk0:k=0
   ·subst hk0
    go_wp2_with fail
    go_roundg (nP-1)
    case measure=>omega
    case rel=>exact⟨1,_,rfl,rfl,by omega,by go_num,by rw [HST.out];exact HU.out,HO.out⟩
   ·have t5:(0:Int) < (k:Int):=by omega
    have t6:0 < k:=by omega
    go_wp2_with fail
    go_roundg (nP-(k+1))
    case measure=>omega
    case rel =>
     refine⟨k+1,_,rfl,rfl,by omega,by go_num,?_,HO.out.setCell (p:=⟨gO,pn,none⟩) rfl _⟩
     rw [HST.out,if_neg hk0]
     exact HU.out.set pn bv
  ·have t2:decide ((k:Int) < (nP:Int))=false:=decide_eq_false (by omega)
   have hkn:k=nP:=by omega
   subst hkn
   clear hU ho
   go_wp2_with fail
   go_ret
   exact⟨gO,rfl,Nat.le_of_eq HG.out.symm,HU.out,((H4.out.2.2.2.2.1.mono (S':=(·=gO)) (fun _ h=>h.elim)).trans HO.out).old (fun b hb=>Or.inl (by rw [hb];exact Nat.le_of_eq HG.out.symm))⟩
end Go.Proofs.YtchaoonefiamdaaGreatDoor
namespace Go.Proofs.YtchaoonefiamdaaGreatDoor
open Go.RowKit Go.Maps
set_option linter.unusedVariables false
set_option linter.unusedSimpArgs false
open Rl (Ex)
theorem all_len:∀ (es:List Ex) (l:List Au.Nd) (p:Au.Pl) (nds:List Au.Nd) (p1:Au.Pl),Au.all es l p=some (nds,p1)→nds.length=l.length+es.length
 | [],l,p,nds,p1,h=>by
  rw [Au.all] at h
  injection h with h
  injection h with h _
  rw [h];rfl
 | e::es,l,p,nds,p1,h=>by
  rw [Au.all] at h
  cases hn:Au.node e p with
  | none=>rw [hn] at h;cases h
  | some q =>
   obtain⟨x,p2⟩:=q
   rw [hn] at h
   have:=all_len es (l++[x]) p2 nds p1 h
   rw [this,List.length_append,List.length_cons,List.length_cons,List.length_nil]
   omega
theorem make_outs {es:List Ex} {classes:Int} {nx:List (List Nat)} {o:List Nat} (h:Au.make es classes=.ok (nx,o)) (s:Nat) (hs:s < nx.length):oX o s < 2 ^ es.length:=by
 obtain⟨c1,c2,c3,nds,p,Fd,ha,h0,hn,ho,hl,hk⟩:=Au.make_says es classes nx o h
 obtain⟨S,w,a1,a2,a3,a4,a5⟩:=hk s (by omega)
 have e:oX o s=Au.out nds S:=by unfold oX;rw [a4];rfl
 rw [e]
 apply Nat.lt_pow_two_of_testBit
 intro i hi
 have hlen:=all_len _ _ _ _ _ ha
 cases hb:(Au.out nds S).testBit i with
 | false=>rfl
 | true =>
  obtain⟨y,hy,_⟩:=(Au.out_bit nds S i).1 hb
  have:=(List.getElem?_eq_some_iff.1 hy).1
  simp at hlen
  omega
theorem lst_outs {es:List Ex} {cl:Nat} {nx:List (List Nat)} {o:List Nat} (h:Au.make es (cl:Int)=.ok (nx,o)) {rows:List (List Nat)} {outs r:List Nat} (hl:L.Hm.Lst nx.length cl (dX nx) (oX o) rows outs r) (s x:Nat) (hx:outs[s]?=some x):x < 2 ^ es.length:=by
 have hs:=(List.getElem?_eq_some_iff.1 hx).1
 have h1:=hl.len
 have h2:=hl.olen
 obtain⟨q,hq⟩:∃ q,r[s]?=some q:=⟨_,List.getElem?_eq_getElem (by omega)⟩
 obtain⟨h3,h4⟩:=hl.st s q hq
 rw [hx] at h4
 injection h4 with h4
 rw [h4]
 exact make_outs h q h3
theorem tz_least {x:Nat} (h0:0 < x) (hx:x < 512) (j:Nat) (hj:j < tz x):x.testBit j=false:=by
 obtain⟨_,_,h3,h4⟩:=tz_of h0 hx
 unfold tz at hj
 cases hf:(List.range 9).find? (fun k=>x.testBit k) with
 | none=>rw [hf] at hj;simp at hj
 | some k =>
  rw [hf,Option.getD_some] at hj
  cases hb:x.testBit j with
  | false=>rfl
  | true =>
   rw [List.find?_range_eq_some] at hf
   have:=hf.2.2 j hj
   simp [hb] at this
def says (Q:List Int) (i:Nat) (r:Rl.Rule):Prop:=(∃ a,Au.mt (Q.take i) r.left a (Q.take i).length)∧∃ a,Au.mt (Q.reverse.take (Q.length-i)) r.right a (Q.reverse.take (Q.length-i)).length
def first1 (list:List Rl.Rule) (Q:List Int) (i:Nat) (v:Int):Prop :=
 (∃ (k:Nat) (r:Rl.Rule),list[k]?=some r∧says Q i r∧v=r.does∧∀ (j:Nat) (r':Rl.Rule),j < k→list[j]?=some r'→¬ says Q i r')∨((∀ r∈list,¬ says Q i r)∧v=1)
theorem btw_says {list:List Rl.Rule} {cl:Nat} {nL:List (List Nat)} {oL:List Nat} {nR:List (List Nat)} {oR:List Nat} (hL:Au.make (list.map (·.left)) (cl:Int)=.ok (nL,oL)) (hR:Au.make (list.map (·.right)) (cl:Int)=.ok (nR,oR)) {rowsL:List (List Nat)} {outsL rL:List Nat} {rowsR:List (List Nat)} {outsR rR:List Nat} (hLl:L.Hm.Lst nL.length cl (dX nL) (oX oL) rowsL outsL rL) (hLr:L.Hm.Lst nR.length cl (dX nR) (oX oR) rowsR outsR rR) (hn:list.length≤9) (Q:List Int) (hQ:∀ c∈Q,0≤c∧c < (cl:Int)) (i:Nat) (hi:i≤Q.length) :
  first1 list Q i (frs (list.map (·.does)) (bx rowsL outsL rowsR outsR Q i)):=by
 have hQr:∀ c∈Q.reverse,0≤c∧c < (cl:Int):=fun c hc=>hQ c (List.mem_reverse.1 hc)
 obtain⟨_,O1,e1,t1⟩:=least_tells hL hLl Q hQ i _ (stt_at rowsL Q i hi)
 obtain⟨_,O2,e2,t2⟩:=least_tells hR hLr Q.reverse hQr (Q.length-i) _ (stt_at rowsR Q.reverse (Q.length-i) (by rw [List.length_reverse];omega))
 have hbx:bx rowsL outsL rowsR outsR Q i=O1 &&& O2:=by
  unfold bx L.Hm.oR
  rw [e1,e2]
  rfl
 have hb1:O1 < 2 ^ list.length:=by
  have:=lst_outs hL hLl _ _ e1
  rw [List.length_map] at this
  exact this
 have hs:=bx_small (rowsL:=rowsL) (rowsR:=rowsR) (outsR:=outsR) (n:=list.length) (fun s x h=>by have:=lst_outs hL hLl s x h;rw [List.length_map] at this;exact this) hn Q i
 have key:∀ k r,list[k]?=some r→((bx rowsL outsL rowsR outsR Q i).testBit k=true↔says Q i r):=fun k r hr=>by
  rw [hbx,Nat.testBit_and,Bool.and_eq_true,t1 k r.left (by rw [List.getElem?_map,hr];rfl),t2 k r.right (by rw [List.getElem?_map,hr];rfl)]
  exact Iff.rfl
 generalize bx rowsL outsL rowsR outsR Q i=x at hs key
 unfold first1
 by_cases h0:x=0
 ·right
  refine⟨fun r hr hsay=>?_,by unfold frs;rw [if_pos h0]⟩
  obtain⟨k,hk⟩:=List.getElem?_of_mem hr
  have:=(key k r hk).2 hsay
  rw [h0,Nat.zero_testBit] at this
  cases this
 ·left
  have hp:0 < x:=by omega
  have hlt:=hs.2 hp
  obtain⟨_,_,_,h5⟩:=tz_of hp hs.1
  obtain⟨r,hr⟩:∃ r,list[tz x]?=some r:=⟨_,List.getElem?_eq_getElem hlt⟩
  refine⟨tz x,r,hr,(key _ r hr).1 h5,?_,fun j r' hj hr' hsay=>?_⟩
  ·unfold frs
   rw [if_neg h0,List.getElem?_map,hr]
   rfl
  ·have:=(key j r' hr').2 hsay
   rw [tz_least hp hs.1 j hj] at this
   cases this
theorem al_all {af n:Int}:∀ (C:List Int) (i:Nat) (aft:Bool),al 0 af n C i aft=(List.range C.length).map (fun k=>((i+k:Nat):Int))
 | [],i,aft=>by simp [al]
 | x::xs,i,aft=>by
  have hb:bitI 0 (clO x n)=false:=by simp [bitI]
  rw [al,if_neg (by rw [hb];simp),al_all xs (i+1),List.length_cons,List.range_succ_eq_map,List.map_cons,List.map_map]
  congr 1
  apply List.map_congr_left
  intro k _
  simp only [Function.comp]
  omega
end Go.Proofs.YtchaoonefiamdaaGreatDoor
namespace Go.Proofs.YtchaoonefiamdaaGreatDoor
open Go.RowKit Go.Maps
set_option linter.unusedVariables false
set_option linter.unusedSimpArgs false
open Rl (Ex)
def rowOf (s:Rl.St) (cl:Nat) (C:List Int):List Int:=(al s.join s.after cl C 0 false).map (tk1 (s.treat.map (fun x=>clO x cl)) C)
theorem macRun_any (s:Rl.St) (cl n:Nat) (nL:List (List Nat)) (oL:List Nat) (nR:List (List Nat)) (oR:List Nat) (lo mb:Nat) (aC:Option Addr) (nC cC:Nat) (C:List Int) (w:World)
  (hm:Mac w lo mb s cl n nL oL nR oR) (hL:Au.make (s.list.map (·.left)) (cl:Int)=.ok (nL,oL)) (hR:Au.make (s.list.map (·.right)) (cl:Int)=.ok (nR,oR)) (hn:n=s.list.length) (hn9:n≤9) (htl:s.treat.length=cl) (h0:0 < cl) (hj:0≤s.join∧s.join < 4294967296) (ha:0≤s.after∧s.after < 4294967296)
  (hC:Iw w aC nC C) (hnC:nC≤999) (hT:Tz w) :
  Calls Tryz.prog 7 #[.pointer (some ⟨mb,0,none⟩),.slice aC nC cC] w fun e w'=>∃ g B,e=.returned (.slice (some ⟨g,0,none⟩) (nC+1) (nC+1))∧w.heap.size≤g∧Ub w' g (rn (List.replicate nC 0++[2]) (al s.join s.after cl C 0 false) B (al s.join s.after cl C 0 false).length)∧B.length=(al s.join s.after cl C 0 false).length∧(∀ i v,B[i]?=some v→first1 s.list (rowOf s cl C) i v)∧Only (fun _=>False) w w':=by
 obtain⟨bT,bD,lN,lO,rN,rO,rowsL,outsL,rL,rowsR,outsR,rR,h1,h2,h3,h4,h5,h6,h7⟩:=hm
 have hcl:cl≤24:=(make_form hL).2.2.2.1
 have hTi:∀ x∈s.treat.map (fun x=>clO x cl),0≤x∧x < (cl:Int):=fun x hx=>by
  obtain⟨y,_,rfl⟩:=List.mem_map.1 hx
  exact clO_lt (by omega)
 have hu:(∀ q x:Nat,outsL[q]?=some x→x < 2 ^ n)∧(∀ q x:Nat,outsR[q]?=some x→x < 2 ^ n):=by
  refine⟨fun q x h=>?_,fun q x h=>?_⟩
  ·have:=lst_outs hL h5 q x h
   rw [List.length_map,←hn] at this
   exact this
  ·have:=lst_outs hR h7 q x h
   rw [List.length_map,←hn] at this
   exact this
 refine (segRun_any mb s.join s.after hj.1 hj.2 ha.1 ha.2 bT cl bD n n lN lO rN rO _ _ rowsL outsL rowsR outsR cl lo aC nC cC C w h1 h2 (by rw [List.length_map];exact htl) hTi h0 hcl h3 (by rw [List.length_map];exact hn.symm) hn9 h4 h5.ok h6 h7.ok hC hnC hT hu).mono ?_
 rintro e w' ⟨g,q1,q2,q3,q4⟩
 refine⟨g,_,q1,q2,q3,by rw [btw_len,List.length_map],fun i v hv=>?_,q4⟩
 have hil:=(List.getElem?_eq_some_iff.1 hv).1
 rw [btw_len] at hil
 rw [btw_at _ _ _ _ _ _ _ hil] at hv
 injection hv with hv
 rw [←hv]
 exact btw_says hL hR h5 h7 (by omega) _ (fun c hc=>by obtain⟨p,_,rfl⟩:=List.mem_map.1 hc;exact tk1_in hTi h0 C p) i (Nat.le_of_lt hil)
theorem says_set {Q:List Int} {i:Nat} (hi:i < Q.length) {r:Rl.Rule} {t:Int} (hr:r.right=.mk 1 t []):says Q i r↔(∃ a,Au.mt (Q.take i) r.left a (Q.take i).length)∧Au.hit Q t i:=by
 unfold says
 rw [hr]
 have hl:Q.length-i≤Q.reverse.length:=by rw [List.length_reverse];omega
 have e:=set_ends Q.reverse t (Q.length-i) hl
 constructor
 ·rintro ⟨h1,h2⟩
  refine⟨h1,?_⟩
  have h3:=(e.1 h2).2
  unfold Au.hit Au.hitB at h3 ⊢
  have e2:(Q.reverse.take (Q.length-i))[Q.length-i-1]?=Q[i]?:=by
   rw [List.getElem?_take,if_pos (by omega),List.getElem?_reverse (by omega)]
   congr 1
   omega
  rw [e2] at h3
  exact h3
 ·rintro ⟨h1,h2⟩
  refine⟨h1,e.2 ⟨by omega,?_⟩⟩
  unfold Au.hit Au.hitB at h2 ⊢
  have e2:(Q.reverse.take (Q.length-i))[Q.length-i-1]?=Q[i]?:=by
   rw [List.getElem?_take,if_pos (by omega),List.getElem?_reverse (by omega)]
   congr 1
   omega
  rw [e2]
  exact h2
theorem rn_all (base B:List Int) (m:Nat) (hb:m < base.length) (hB:B.length=m):∀ k,k≤m→∀ j,(rn base ((List.range m).map (fun q=>((0+q:Nat):Int))) B k)[j]?=if 0 < j∧j < k then B[j]? else base[j]?
 | 0,_,j=>by simp [rn]
 | k+1,hk,j=>by
  have ih:=rn_all base B m hb hB k (by omega)
  rw [rn]
  split
  ·rename_i h0
   subst h0
   rw [ih j,if_neg (by omega),if_neg (by omega)]
  ·rename_i h0
   have e:(((List.range m).map (fun q=>((0+q:Nat):Int)))[k]?.getD 0).toNat=k:=by
    rw [List.getElem?_map,List.getElem?_range (by omega)]
    simp
   rw [e,List.getElem?_set]
   have hl:=rn_len base ((List.range m).map (fun q=>((0+q:Nat):Int))) B k
   by_cases hjk:k=j
   ·subst hjk
    rw [if_pos rfl,if_pos (by rw [hl];omega),if_pos (by omega)]
    rw [List.getElem?_eq_getElem (by omega)]
    rfl
   ·rw [if_neg hjk,ih j]
    by_cases hc:0 < j∧j < k
    ·rw [if_pos hc,if_pos (by omega)]
    ·rw [if_neg hc,if_neg (by omega)]
set_option maxRecDepth 100000 in
set_option maxHeartbeats 4000000 in
theorem sameOpps_any (gA gB n m cA cB:Nat) (A B:List Int) (w:World) (hA:Ub w gA A) (hB:Ub w gB B) (hn:A.length=n) (hm:B.length=m) (hn1:n≤100000) (hm1:m≤100000) :
  Calls Tryz.prog 8 #[.slice (some ⟨gA,0,none⟩) n cA,.slice (some ⟨gB,0,none⟩) m cB] w fun e w'=>e=.returned (.bool (decide (A=B)))∧Only (fun _=>False) w w':=by
 have HA:Hid (Ub w gA A∧A.length=n):=⟨hA,hn⟩
 have HB:Hid (Ub w gB B∧B.length=m):=⟨hB,hm⟩
 by_cases hnm:n=m
 ·subst hnm
  clear hA hB hn hm
  have z1:((n:Int) != (n:Int))=false:=by simp
  go_enter Tryz.func8,Tryz.ntmps8
  go_wp2_with fail
  go_loopg [5] n (fun gh v wr=>∃ (k:Nat) (W:World),W=wr∧gh=n-k∧k≤n∧v=.int .i64 (k:Int)∧A.take k=B.take k∧Only (fun _=>False) w W)
  case atStart=>exact⟨0,_,rfl,rfl,Nat.zero_le _,rfl,rfl,Only.refl _ _⟩
  case round =>
   obtain⟨k,W,hW,rfl,hk,rfl,he,ho⟩:=hrel
   subst hW
   have HO:Hid (Only (fun _=>False) w W):=ho
   have HE:Hid (A.take k=B.take k):=he
   by_cases hlt:k < n
   ·have t1:(k:Int) < (n:Int):=by omega
    obtain⟨x,hx⟩:∃ x,A[k]?=some x:=⟨_,List.getElem?_eq_getElem (by rw [HA.out.2];exact hlt)⟩
    obtain⟨y,hy⟩:∃ y,B[k]?=some y:=⟨_,List.getElem?_eq_getElem (by rw [HB.out.2];exact hlt)⟩
    have c0:=(HA.out.1.keep0 ho).cell hx
    have c1:=(HB.out.1.keep0 ho).cell hy
    have l0:=(HA.out.1.keep0 ho).lt
    have l1:=(HB.out.1.keep0 ho).lt
    have HXY:Hid (A[k]?=some x∧B[k]?=some y):=⟨hx,hy⟩
    by_cases hxy:x=y
    ·subst hxy
     have z2:(x != x)=false:=by simp
     clear he ho hx hy
     go_wp2_with fail
     go_region_held3 (fun w'=>w'.cell? ⟨gA,k,none⟩=some (.int .u8 x)∧w'.cell? ⟨gB,k,none⟩=some (.int .u8 x)) (exact⟨c0,c1⟩) (fail)
     all_goals
      go_wp2_with fail
      go_roundg (n-(k+1))
      case measure=>omega
      case rel =>
       refine⟨k+1,_,rfl,rfl,by omega,by go_num,?_,HO.out.drew⟩
       rw [List.take_add_one,List.take_add_one,HE.out,HXY.out.1,HXY.out.2]
    ·have z2:(x != y)=true:=by simp [hxy]
     have HNE:Hid (decide (A=B)=false):=by
      show _=_
      apply decide_eq_false
      intro e
      subst e
      have:=HXY.out.1.symm.trans HXY.out.2
      injection this with this
      exact hxy this
     clear he ho hx hy
     go_wp2_with fail
     go_region_held3 (fun w'=>w'.cell? ⟨gA,k,none⟩=some (.int .u8 x)∧w'.cell? ⟨gB,k,none⟩=some (.int .u8 y)) (exact⟨c0,c1⟩) (fail)
     all_goals
      go_wp2_with fail
      go_ret
      exact⟨by rw [HNE.out];rfl,HO.out.drew⟩
   ·have t2:decide ((k:Int) < (n:Int))=false:=decide_eq_false (by omega)
    have hkn:k=n:=by omega
    subst hkn
    have HEQ:Hid (decide (A=B)=true):=by
     show _=_
     apply decide_eq_true
     have h:=HE.out
     rw [List.take_of_length_le (by rw [HA.out.2];exact Nat.le_refl _),List.take_of_length_le (by rw [HB.out.2];exact Nat.le_refl _)] at h
     exact h
    clear he ho
    go_wp2_with fail
    go_ret
    exact⟨by rw [HEQ.out];rfl,HO.out⟩
 ·have z1:((n:Int) != (m:Int))=true:=by simp;omega
  have z2:¬ (n:Int)=(m:Int):=by omega
  have HNE:Hid (decide (A=B)=false):=by
   show _=_
   apply decide_eq_false
   intro e
   subst e
   exact hnm (HA.out.2.symm.trans HB.out.2)
  clear hA hB hn hm
  go_enter Tryz.func8,Tryz.ntmps8
  go_wp2_with fail
  go_ret
  exact⟨by rw [HNE.out];rfl,Only.refl _ _⟩
end Go.Proofs.YtchaoonefiamdaaGreatDoor
