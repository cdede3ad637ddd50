/- Sgb Sg2 Sg7 Sg3 Sg4 -/
import Derived.Test.YtdlabakleldgaaaGreatDoorZ00
import Derived.Test.YtdlabakleldgaaaGreatDoorZ35
import Derived.Test.YtdlabakleldgaaaGreatDoorZ21
import Derived.Laws.BitsAllLaws
import Derived.Deep.RegionHeld3
set_option linter.unusedVariables false
set_option linter.unusedSimpArgs false
set_option maxRecDepth 100000
set_option maxHeartbeats 8000000
namespace Go.Proofs.YtdlabakleldgaaaGreatDoor
open Go.RowKit Go.Maps
open Rl (Ex)
theorem p9 (k:Nat):vQ k≠0:=by unfold vQ;split <;> decide
theorem r_ (F:Nat→Prop) (es:List Ex) (a:Option Addr) (c cl k:Nat) (w:World) (hL:Lex w F es a c) (hF:∀b,F b→b < w.heap.size) (hD:∀e∈es,Au.dp e≤1000000) (hm:Au.make es (cl:Int)=.error k):
  Calls Tryz.prog 33 #[.slice a es.length c,.int .i64 (cl:Int)] w fun e w'=>e=.returned (.tuple #[.agg #[.slice none 0 0,.slice none 0 0],.int .i64 (vQ k)])∧Only (fun _=>False) w w':=by
 have EG:=fun (w:World) (h:Lex w F es a c) (hF:∀b,F b→b < w.heap.size)=>uz F es a c (cl:Int) w h hF hD
 rw [hm] at EG
 have HK:Hid _:=EG
 have HL:=zH hL
 have HF:=zH hF
 have q:(vQ k !=0)=true:=by simpa using p9 k
 clear hL hF hD hm EG
 have iA:Hid (Only (fun _=>False) w (w.alloc (.cells #[.slice none 0 0,.slice none 0 0] 71))):=(Only.refl _ _).alloc _
 have HB0:Hid ((w.alloc (.cells #[.slice none 0 0,.slice none 0 0] 71)).heap[w.heap.size]?=some (.cells #[.slice none 0 0,.slice none 0 0] 71 (0,0))):=heap_alloc_new w _
 go_enter Tryz.func33,Tryz.ntmps33
 go_wp2_with fail
 refine Calls.mono (HK.out _ (HL.out.gK iA.out) (fun b hb=>Nat.lt_of_lt_of_le (HF.out b hb) iA.out.size)) ?_
 rintro e w1 ⟨rfl,ho1⟩
 rw [show pJ=Value.agg #[.slice none 0 0,.slice none 0 0] from rfl]
 have az:w1.heap[w.heap.size]?=some (.cells #[.slice none 0 0,.slice none 0 0] 71 (0,0)):=(ho1.block _ (Array.getElem?_eq_some_iff.1 HB0.out).1 (fun h=>h)).trans HB0.out
 have H1:Hid (Only (fun _=>False) w w1∧w1.heap[w.heap.size]?=some (.cells #[.slice none 0 0,.slice none 0 0] 71 (0,0))):=⟨iA.out.trans ho1,az⟩
 have z0:w1.cell? ⟨w.heap.size,0,none⟩=some (.slice none 0 0):=ae az
 have z1:w1.cell? ⟨w.heap.size,1,none⟩=some (.slice none 0 0):=ae az
 have zf:∀x,w1.frozen? ⟨w.heap.size,x,none⟩=false:=fun x=>ak az x
 have zl:w.heap.size < w1.heap.size:=(Array.getElem?_eq_some_iff.1 az).1
 clear ho1 az
 go_wp2_with fail
 refine bodyPost_ret (v:=.tuple #[.agg #[.slice none 0 0,.slice none 0 0],.int .i64 (vQ k)]) (L.a_ (p:=4) (u:=5) rfl _ _ w.heap.size 71 #[.slice none 0 0,.slice none 0 0] (0,0) _ rfl ((Below.heap_alloc _ _ _ (by simp [World.setCell];exact zl)).trans (aa (aa H1.out.2 _) _)) Tryz.underlying71 rfl L.SS rfl) rfl ?_
 exact⟨rfl,((H1.out.1.aS (p:=⟨w.heap.size,0,none⟩) (Nat.le_refl _) _).aS (p:=⟨w.heap.size,1,none⟩) (Nat.le_refl _) _).alloc _⟩
end Go.Proofs.YtdlabakleldgaaaGreatDoor
namespace Go.Proofs.YtdlabakleldgaaaGreatDoor
open Go.RowKit Go.Maps
theorem K_:(Tryz.prog.info? 3).map (fun i=>(i.zero,i.size,i.bytes))=some (some (.int .i64 0),1,8):=by kernel_rfl
def yS (l:List Int):Array Value:=(l.map (fun x=>Value.int .i64 x)).toArray
theorem OE (l:List Int) (i:Nat):(yS l)[i]?=l[i]?.map (fun x=>Value.int .i64 x):=by simp [yS]
theorem La (l:List Int) (i:Nat) (x:Int):(yS l).setIfInBounds i (.int .i64 x)=yS (l.set i x):=by
 unfold yS
 rw [List.setIfInBounds_toArray,List.map_set]
theorem xq (n:Nat):madeCells #[.int .i64 0] n=yS (List.replicate n 0):=by
 apply Array.ext
 ·simp [yS,size_madeCells]
 ·intro i h1 h2
  simp [madeCells,yS,Nat.mod_one]
def Ib (w:World) (b:Nat) (l:List Int):Prop:=w.heap[b]?=some (.cells (yS l) 3 (0,0))
theorem Ib.set {w:World} {b:Nat} {l:List Int} (h:Ib w b l) (i:Nat) (x:Int):Ib (w.setCell ⟨b,i,none⟩ (.int .i64 x)) b (l.set i x):=by
 have:=aa (k:=i) h (.int .i64 x)
 rw [La] at this
 exact this
theorem Ib.lt {w:World} {b:Nat} {l:List Int} (h:Ib w b l):b < w.heap.size:=(Array.getElem?_eq_some_iff.1 h).1
theorem Ib.cell {w:World} {b i:Nat} {x:Int} {l:List Int} (h:Ib w b l) (hx:l[i]?=some x):w.cell? ⟨b,i,none⟩=some (.int .i64 x):=by
 rw [ae h,OE,hx]
 rfl
theorem Ib.fz {w:World} {b:Nat} {l:List Int} (h:Ib w b l) (i:Nat):w.frozen? ⟨b,i,none⟩=false:=ak h i
theorem Ib.iw {w:World} {b:Nat} {l:List Int} (h:Ib w b l):Iw w (some ⟨b,0,none⟩) l.length l:=⟨rfl,b,0,fun _=>⟨rfl,h.lt⟩,fun j x hj=>by rw [Nat.zero_add];exact h.cell hj⟩
def Mz (w:World) (b:Nat) (jn af:Int) (vT vD lN lO rN rO:Value):Prop:=w.heap[b]?=some (.cells #[.int .u32 jn,.int .u32 af,vT,vD,lN,lO,rN,rO] 73 (0,0))
theorem d_ (b:Nat) (jn af:Int) (aT:Option Addr) (nT cT:Nat) (vD lN lO rN rO:Value) (w:World) (h:Mz w b jn af (.slice aT nT cT) vD lN lO rN rO):Calls Tryz.prog 13 #[.pointer (some ⟨b,0,none⟩)] w fun e w'=>e=.returned (.int .i64 (nT:Int))∧w'=w:=by
 have c2:w.cell? ⟨b,2,none⟩=some (.slice aT nT cT):=ae h
 have lb:b < w.heap.size:=(Array.getElem?_eq_some_iff.1 h).1
 clear h
 go_enter Tryz.func13,Tryz.ntmps13
 go_wp2_with fail
 go_ret
 exact⟨rfl,rfl⟩
theorem AY (T:List Int) (a:Option Addr) (n c:Nat) (w:World) (hT:Iw w a n T) (hn:n≤24) (hn0:0 < n):
  Calls Tryz.prog 36 #[.slice a n c,.int .i64 (n:Int)] w fun e w'=>∃b,e=.returned (.slice (some ⟨b,0,none⟩) n n)∧w.heap.size≤b∧Ib w' b (T.map (fun x=>fF x n))∧Only (fun _=>False) w w':=by
 obtain⟨hl,bT,off,hb,hc⟩:=hT
 obtain⟨rfl,hbl⟩:=hb hn0
 have jZ:=zH hl
 have HC:=zH hc
 clear hb hc hl
 have hmk:=fun (w:World)=>run_make_row' (P:=Tryz.prog) 28 3 (.int .i64 0) 8 Tryz.underlying28 K_ rfl .i64 .i64 n (by omega) (by omega) w
 go_enter Tryz.func36,Tryz.ntmps36
 go_wp2_with fail
 go_loopg [11] n (fun gh v wr=>∃(k:Nat) (W:World),W=wr∧gh=n - k∧k≤n∧v=.int .i64 (k:Int)∧Ib W w.heap.size (ik (T.map (fun x=>fF x n)) k)∧Only (fun _=>False) w W)
 case atStart=>
  refine⟨0,_,rfl,rfl,Nat.zero_le _,rfl,?_,(Only.refl _ _).alloc _⟩
  rw [lK,List.length_map,jZ.out]
  unfold Ib
  rw [←xq]
  exact heap_alloc_new w _
 case round=>
  obtain⟨k,W,hW,rfl,hk,rfl,hU,ho⟩:=hrel
  subst hW
  have HU:=zH hU
  have HO:=zH ho
  have lub:=hU.lt
  by_cases hlt:k < n
  ·have t1:(k:Int) <(n:Int):=by omega
   obtain⟨r,hr⟩:∃r,T[k]?=some r:=⟨_,List.getElem?_eq_getElem (by rw [jZ.out];exact hlt)⟩
   have HD:Hid ((T.map (fun x=>fF x n))[k]?=some (fF r n)):=by
    show _=_
    rw [List.getElem?_map,hr]
    rfl
   have q0:=(World.cell?_of_block (a:=⟨bT,off+k,none⟩) (ho.block bT hbl (fun h=>h))).trans (HC.out k r hr)
   have hne:bT≠w.heap.size:=by omega
   have q1:(W.setCell ⟨w.heap.size,k,none⟩ (.int .i64 (k:Int))).cell? ⟨bT,off+k,none⟩=some (.int .i64 r):=(World.cell?_of_block (a:=⟨bT,off+k,none⟩) (Below.heap_setCell _ _ _ _ hne)).trans q0
   obtain⟨x,hx⟩:∃x,(ik (T.map (fun x=>fF x n)) k)[k]?=some x:=⟨_,List.getElem?_eq_getElem (by rw [pO (by rw [List.length_map,jZ.out];exact hk),List.length_map,jZ.out];exact hlt)⟩
   have u0:=hU.cell hx
   have u1:∀x,W.frozen? ⟨w.heap.size,x,none⟩=false:=fun x=>hU.fz x
   have hk1:k <(ik (T.map (fun x=>fF x n)) k).length:=(List.getElem?_eq_some_iff.1 hx).1
   have u2:(W.setCell ⟨w.heap.size,k,none⟩ (.int .i64 (k:Int))).cell? ⟨w.heap.size,k,none⟩=some (.int .i64 (k:Int)):=(hU.set k (k:Int)).cell (by rw [List.getElem?_set_self hk1])
   have u3:∀x,(W.setCell ⟨w.heap.size,k,none⟩ (.int .i64 (k:Int))).frozen? ⟨w.heap.size,x,none⟩=false:=fun x=>(hU.set k (k:Int)).fz x
   have lbW:bT < W.heap.size:=Nat.lt_of_lt_of_le hbl ho.size
   clear hU ho hr hx hmk
   go_wp2_with (go_at_call 24;refine (fw r (n:Int) _).mono ?_;rintro e w2 ⟨rfl,rfl⟩)
   go_roundg (n -(k+1))
   case measure=>omega
   case rel=>
    refine⟨k+1,_,rfl,rfl,by omega,by go_num,?_,((HO.out.aS (p:=⟨w.heap.size,k,none⟩) (Nat.le_refl _) _).aS (p:=⟨w.heap.size,k,none⟩) (Nat.le_refl _) _)⟩
    have hs:=(HU.out.set k (k:Int)).set k (fF r n)
    rw [List.set_set,pQ HD.out] at hs
    exact hs
  ·have t2:decide ((k:Int) <(n:Int))=false:=decide_eq_false (by omega)
   have hkn:k=n:=by omega
   subst hkn
   clear hU ho hmk
   go_wp2_with fail
   go_ret
   refine⟨w.heap.size,rfl,Nat.le_refl _,?_,HO.out⟩
   have:=HU.out
   rw [show ik (T.map (fun x=>fF x k)) k=T.map (fun x=>fF x k) by have:=lM (T.map (fun x=>fF x k));rw [List.length_map,jZ.out] at this;exact this] at this
   exact this
def Td:List Int:=[0,1,28,2,29,14,24,3,30,22,20,15,25,17,4,8,31,27,13,23,21,19,16,7,26,12,18,6,11,5,10,9]
def Tz (w:World):Prop:=0 < w.heap.size∧∀(j:Nat) (v:Int),Td[j]?=some v→w.cell? ⟨0,j,none⟩=some (.int .u8 v)
theorem Tz.keep {w w':World} (h:Tz w) (ho:Only (fun _=>False) w w'):Tz w':=⟨Nat.lt_of_lt_of_le h.1 ho.size,fun j v hj=>(World.cell?_of_block (a:=⟨0,j,none⟩) (ho.block 0 h.1 (fun h=>h))).trans (h.2 j v hj)⟩
def tz (x:Nat):Nat:=((List.range 10).find? (fun k=>x.testBit k)).getD 0
def Qf (x:Nat):Nat:=(x &&&(4294967296 - x))*125613361 % 4294967296 / 134217728
theorem Tf:(List.range 1024).all (fun x=>x==0 ||(Qf x < 32 && Td[Qf x]?==some ((tz x:Nat):Int) &&(tz x < 10) && x.testBit (tz x)))=true:=by kernel_rfl
theorem Qg {x:Nat} (h0:0 < x) (hx:x < 1024):Qf x < 32∧Td[Qf x]?=some ((tz x:Nat):Int)∧tz x < 10∧x.testBit (tz x)=true:=by
 have:=List.all_eq_true.1 Tf x (by simp;exact hx)
 simp at this
 rcases this with h | h
 ·omega
 ·exact⟨h.1.1.1,h.1.1.2,h.1.2,h.2⟩
theorem Ti (x:Nat) (w:World) (h0:0 < x) (hx:x < 1024) (hT:Tz w):
  Calls Tryz.prog 50 #[.int .u32 (x:Int)] w fun e w'=>e=.returned (.int .i64 (tz x:Int))∧w'=w:=by
 obtain⟨h1,h2,h3,h4⟩:=Qg h0 hx
 have c0:=hT.2 _ _ h2
 have lh:=hT.1
 have hq:bits .and .u32 (x:Int) (-(x:Int) % 4294967296)=((x &&&(4294967296 - x):Nat):Int):=by
  rw [show -(x:Int) % 4294967296=((4294967296 - x:Nat):Int) by omega]
  exact u32_and_nat _ _ (by omega) (by omega)
 have hi:bits .and .u32 (x:Int) (-(x:Int) % 4294967296)*125613361 % 4294967296 / 134217728=((Qf x:Nat):Int):=by
  rw [hq]
  unfold Qf
  omega
 have t1:¬(x:Int)=0:=by omega
 have t2:((x:Int)==0)=false:=by simp;omega
 have t3:((Qf x:Nat):Int) < 32:=by omega
 obtain⟨ti,hti⟩:∃ti,ti=Qf x:=⟨_,rfl⟩
 rw [←hti] at c0 hi t3
 have htl:ti < 32:=by omega
 clear hT h1 h2 h4 hq hti
 go_enter Tryz.func50,Tryz.ntmps50
 go_wp2_with fail
 go_ret
 exact⟨rfl,rfl⟩
def OG (D:List Int) (x:Nat):Int:=if x=0 then 1 else D[tz x]?.getD 0
theorem GY (b:Nat) (jn af:Int) (vT:Value) (gD nD cD:Nat) (lN lO rN rO:Value) (D:List Int) (x:Nat) (w:World) (hM:Mz w b jn af vT (.slice (some ⟨gD,0,none⟩) nD cD) lN lO rN rO) (hD:Ub w gD D) (hDn:D.length=nD) (hn:nD≤24) (hx:x < 1024) (hk:0 < x→tz x < nD) (hT:Tz w):
  Calls Tryz.prog 29 #[.pointer (some ⟨b,0,none⟩),.int .u32 (x:Int)] w fun e w'=>e=.returned (.int .u8 (OG D x))∧Only (fun _=>False) w w':=by
 have c3:w.cell? ⟨b,3,none⟩=some (.slice (some ⟨gD,0,none⟩) nD cD):=ae hM
 have lb:b < w.heap.size:=(Array.getElem?_eq_some_iff.1 hM).1
 have lD:=hD.lt
 by_cases h0:x=0
 ·subst h0
  clear hM hD hT hk
  go_enter Tryz.func29,Tryz.ntmps29
  go_wp2_with fail
  go_ret
  exact⟨rfl,Only.refl _ _⟩
 ·have HT:Hid (Calls Tryz.prog 50 #[.int .u32 (x:Int)] w.drew fun e w'=>e=.returned (.int .i64 (tz x:Int))∧w'=w.drew):=Ti x w.drew (by omega) hx (hT.keep (Only.refl _ _).drew)
  have hk1:tz x < nD:=hk (by omega)
  obtain⟨y,hy⟩:∃y,D[tz x]?=some y:=⟨_,List.getElem?_eq_getElem (by omega)⟩
  have c4:=hD.cell hy
  have hf:OG D x=y:=by
   unfold OG
   rw [if_neg h0,hy]
   rfl
  rw [hf]
  have t1:¬(x:Int)=0:=by omega
  have t2:((x:Int)==0)=false:=by simp;omega
  have t3:(tz x:Int) <(nD:Int):=by omega
  generalize tz x=k at *
  clear hM hD hT hk hf hy
  go_enter Tryz.func29,Tryz.ntmps29
  go_wp2_with fail
  go_region_held3 (fun w'=>w'.cell? ⟨b,3,none⟩=some (.slice (some ⟨gD,0,none⟩) nD cD)∧w'.cell? ⟨gD,k,none⟩=some (.int .u8 y)) (exact⟨c3,c4⟩) ((go_at_call 50;refine HT.out.mono ?_;rintro e w2 ⟨rfl,rfl⟩))
  all_goals
   go_wp2_with fail
   go_ret
   exact⟨rfl,(Only.refl _ _).drew⟩
theorem Iw.at {w:World} {a:Option Addr} {n:Nat} {L:List Int} (h:Iw w a n L) (h0:0 < n):∃b off,a=some ⟨b,off,none⟩∧b < w.heap.size∧∀w',Only (fun _=>False) w w'→∀(j:Nat) (x:Int),L[j]?=some x→w'.cell? ⟨b,off+j,none⟩=some (.int .i64 x):=by
 obtain⟨_,b,off,h1,h2⟩:=h
 exact⟨b,off,(h1 h0).1,(h1 h0).2,fun w' ho j x hj=>(World.cell?_of_block (a:=⟨b,off+j,none⟩) (ho.block b (h1 h0).2 (fun h=>h))).trans (h2 j x hj)⟩
def AZ (T C:List Int) (p:Int):Int:=T[(fF (C[p.toNat]?.getD 0) T.length).toNat]?.getD 0
theorem GZ (b:Nat) (jn af:Int) (aT:Option Addr) (nT cT:Nat) (vD lN lO rN rO:Value) (T C P:List Int) (aC:Option Addr) (nC cC:Nat) (aP:Option Addr) (nP cP:Nat) (w:World)
  (hM:Mz w b jn af (.slice aT nT cT) vD lN lO rN rO) (hT:Iw w aT nT T) (hT0:0 < nT) (hTn:nT≤24) (hC:Iw w aC nC C) (hCn:nC≤1000) (hP:Iw w aP nP P) (hPn:nP≤1000) (hin:∀p∈P,0≤p∧p <(nC:Int)):
  Calls Tryz.prog 16 #[.pointer (some ⟨b,0,none⟩),.slice aC nC cC,.slice aP nP cP] w fun e w'=>∃g,e=.returned (.slice (some ⟨g,0,none⟩) nP nP)∧w.heap.size≤g∧Ib w' g (P.map (AZ T C))∧Only (fun _=>False) w w':=by
 have HM:=zH hM
 have HT:=zH hT
 have HC:=zH hC
 have HP:=zH hP
 have J5:=zH hin
 clear hM hT hC hP hin
 have hmk:=fun (w:World)=>run_make_row' (P:=Tryz.prog) 28 3 (.int .i64 0) 8 Tryz.underlying28 K_ rfl .i64 .i64 nP (by omega) (by omega) w
 go_enter Tryz.func16,Tryz.ntmps16
 go_wp2_with fail
 go_loopg [15] nP (fun gh v wr=>∃(k:Nat) (W:World),W=wr∧gh=nP - k∧k≤nP∧v=.int .i64 (k:Int)∧Ib W w.heap.size (ik (P.map (AZ T C)) k)∧Only (fun _=>False) w W)
 case atStart=>
  refine⟨0,_,rfl,rfl,Nat.zero_le _,rfl,?_,(Only.refl _ _).alloc _⟩
  rw [lK,List.length_map,HP.out.1]
  unfold Ib
  rw [←xq]
  exact heap_alloc_new w _
 case round=>
  obtain⟨k,W,hW,rfl,hk,rfl,hU,ho⟩:=hrel
  subst hW
  have HU:=zH hU
  have HO:=zH ho
  have lub:=hU.lt
  by_cases hlt:k < nP
  ·have t1:(k:Int) <(nP:Int):=by omega
   obtain⟨r,hr⟩:∃r,P[k]?=some r:=⟨_,List.getElem?_eq_getElem (by rw [HP.out.1];exact hlt)⟩
   obtain⟨rp,rfl⟩:∃rp:Nat,r=(rp:Int):=⟨r.toNat,by have:=(J5.out r (List.mem_of_getElem? hr)).1;omega⟩
   have C_:rp < nC:=by have:=(J5.out _ (List.mem_of_getElem? hr)).2;omega
   have abB:(rp:Int) <(nC:Int):=by omega
   obtain⟨x,hx⟩:∃x,C[rp]?=some x:=⟨_,List.getElem?_eq_getElem (by rw [HC.out.1];exact C_)⟩
   have hcl:=CL (n:=x) (c:=(nT:Int)) (by omega)
   obtain⟨q,hq⟩:∃q:Nat,fF x nT=(q:Int):=⟨(fF x nT).toNat,by omega⟩
   have HQ:=zH hq
   have Iy:q < nT:=by omega
   have abC:(q:Int) <(nT:Int):=by omega
   obtain⟨y,hy⟩:∃y,T[q]?=some y:=⟨_,List.getElem?_eq_getElem (by rw [HT.out.1];exact Iy)⟩
   have HD:Hid ((P.map (AZ T C))[k]?=some y):=by
    show _=_
    rw [List.getElem?_map,hr]
    show some (AZ T C (rp:Int))=_
    unfold AZ
    rw [Int.toNat_natCast,hx,HT.out.1]
    show some (T[(fF x nT).toNat]?.getD 0)=_
    rw [hq,Int.toNat_natCast,hy]
    rfl
   obtain⟨bP,oP,rfl,lP0,hcP⟩:=HP.out.at (by omega)
   obtain⟨bC,oC,rfl,Tj,hcC⟩:=HC.out.at (by omega)
   obtain⟨bT,oT,rfl,lT0,WH⟩:=HT.out.at hT0
   have Tm:b < w.heap.size:=(Array.getElem?_eq_some_iff.1 HM.out).1
   have lP:bP < W.heap.size:=Nat.lt_of_lt_of_le lP0 ho.size
   have lC:bC < W.heap.size:=Nat.lt_of_lt_of_le Tj ho.size
   have lT:bT < W.heap.size:=Nat.lt_of_lt_of_le lT0 ho.size
   have p0:=hcP W ho k _ hr
   have p1:=hcC W ho rp _ hx
   have p2:=WH W ho q _ hy
   have iP:Hid (Mz W b jn af (.slice (some ⟨bT,oT,none⟩) nT cT) vD lN lO rN rO):=(ho.block b (Array.getElem?_eq_some_iff.1 HM.out).1 (fun h=>h)).trans HM.out
   have p3:W.cell? ⟨b,2,none⟩=some (.slice (some ⟨bT,oT,none⟩) nT cT):=ae iP.out
   have lb:b < W.heap.size:=(Array.getElem?_eq_some_iff.1 iP.out).1
   obtain⟨z,hz⟩:∃z,(ik (P.map (AZ T C)) k)[k]?=some z:=⟨_,List.getElem?_eq_getElem (by rw [pO (by rw [List.length_map,HP.out.1];exact hk),List.length_map,HP.out.1];exact hlt)⟩
   have u0:=hU.cell hz
   have u1:∀x,W.frozen? ⟨w.heap.size,x,none⟩=false:=fun x=>hU.fz x
   clear hU ho hr hx hmk hy hz hq hcl hcP hcC WH
   have Ut:Hid (Mz W.drew b jn af (.slice (some ⟨bT,oT,none⟩) nT cT) vD lN lO rN rO):=iP.out
   have Dz:Hid (∀w':World,Only (·=w.heap.size) W w'→(w'.cell? ⟨b,2,none⟩=some (.slice (some ⟨bT,oT,none⟩) nT cT)∧w'.cell? ⟨bC,oC+rp,none⟩=some (.int .i64 x)∧w'.cell? ⟨bT,oT+q,none⟩=some (.int .i64 y))):=fun w' ho=>⟨(World.cell?_of_block (a:=⟨b,2,none⟩) (ho.block _ lb (Nat.ne_of_lt Tm))).trans p3,(World.cell?_of_block (a:=⟨bC,oC+rp,none⟩) (ho.block _ lC (Nat.ne_of_lt Tj))).trans p1,(World.cell?_of_block (a:=⟨bT,oT+q,none⟩) (ho.block _ lT (Nat.ne_of_lt lT0))).trans p2⟩
   go_wp2_with fail
   go_region_held3 (fun w'=>w'.cell? ⟨b,2,none⟩=some (.slice (some ⟨bT,oT,none⟩) nT cT)∧w'.cell? ⟨bC,oC+rp,none⟩=some (.int .i64 x)∧w'.cell? ⟨bT,oT+q,none⟩=some (.int .i64 y)) ((first | exact Dz.out _ ((Only.refl (·=w.heap.size) W).drew) | exact Dz.out _ (((Only.refl (·=w.heap.size) W).setCell (p:=⟨w.heap.size,k,none⟩) rfl _).drew) | exact Dz.out _ (((Only.refl (·=w.heap.size) W).drew).setCell (p:=⟨w.heap.size,k,none⟩) rfl _))) ((first |(go_at_call 13;refine (d_ b jn af _ nT cT vD lN lO rN rO _ Ut.out).mono ?_;rintro e w2 ⟨rfl,rfl⟩) |(go_at_call 24;refine (fw x (nT:Int) _).mono ?_;rintro e w2 ⟨rfl,rfl⟩;rw [HQ.out])))
   all_goals
    go_wp2_with fail
    go_roundg (nP -(k+1))
    case measure=>omega
    case rel=>
     refine⟨k+1,_,rfl,rfl,by omega,by go_num,?_,(HO.out.drew.aS (p:=⟨w.heap.size,k,none⟩) (Nat.le_refl _) _)⟩
     have hs:=HU.out.set k y
     rw [pQ HD.out] at hs
     exact hs
  ·have t2:decide ((k:Int) <(nP:Int))=false:=decide_eq_false (by omega)
   have hkn:k=nP:=by omega
   subst hkn
   clear hU ho hmk
   go_wp2_with fail
   go_ret
   refine⟨w.heap.size,rfl,Nat.le_refl _,?_,HO.out⟩
   have:=HU.out
   rw [show ik (P.map (AZ T C)) k=P.map (AZ T C) by have:=lM (P.map (AZ T C));rw [List.length_map,HP.out.1] at this;exact this] at this
   exact this
def mM (s c:Int):Bool:=decide (s / 2 ^ c.toNat % 2=1)
def al (jn af n:Int):List Int→Nat→Bool→List Int
 | [],_,_=>[]
 | x::xs,i,tL=>if tL=true∧mM jn (fF x n)=true then al jn af n xs (i+1) tL else (i:Int)::al jn af n xs (i+1) (mM af (fF x n))
theorem OH {jn af n:Int} {C:List Int} {k:Nat} {x:Int} {tL:Bool} (hx:C[k]?=some x) (h:tL=true∧mM jn (fF x n)=true):al jn af n (C.drop k) k tL=al jn af n (C.drop (k+1)) (k+1) tL:=by
 obtain⟨hl,rfl⟩:=List.getElem?_eq_some_iff.1 hx
 rw [List.drop_eq_getElem_cons hl,al,if_pos h]
theorem A7 {jn af n:Int} {C:List Int} {k:Nat} {x:Int} {tL:Bool} (hx:C[k]?=some x) (h:¬(tL=true∧mM jn (fF x n)=true)):al jn af n (C.drop k) k tL=(k:Int)::al jn af n (C.drop (k+1)) (k+1) (mM af (fF x n)):=by
 obtain⟨hl,rfl⟩:=List.getElem?_eq_some_iff.1 hx
 rw [List.drop_eq_getElem_cons hl,al,if_neg h]
theorem G6 (b:Nat) (jn af:Int) (hj0:0≤jn) (hj1:jn < 4294967296) (ha0:0≤af) (ha1:af < 4294967296) (aT:Option Addr) (nT cT:Nat) (vD lN lO rN rO:Value) (C:List Int) (aC:Option Addr) (nC cC:Nat) (w:World)
  (hM:Mz w b jn af (.slice aT nT cT) vD lN lO rN rO) (hT0:0 < nT) (hTn:nT≤24) (hC:Iw w aC nC C) (hCn:nC≤1000):
  Calls Tryz.prog 14 #[.pointer (some ⟨b,0,none⟩),.slice aC nC cC] w fun e w'=>∃v,e=.returned v∧w'.ownsRow w.heap.size 3 1 v (al jn af nT C 0 false).length (ints (al jn af nT C 0 false))∧Only (fun _=>False) w w':=by
 have HM:=zH hM
 have HC:=zH hC
 clear hM hC
 obtain⟨i0,hi,hz0,hz1,hz2⟩:=info_parts info3'
 go_enter Tryz.func14,Tryz.ntmps14
 go_wp2_with fail
 go_loopg [5,6,12] nC (fun gh v f i wr=>∃(k:Nat) (pre:List Int) (tL:Bool) (a:Option Addr) (cap:Nat) (W:World),W=wr∧gh=nC - k∧k≤nC∧v=.slice a pre.length cap∧f=.bool tL∧i=.int .i64 (k:Int)∧al jn af nT C 0 false=pre++al jn af nT (C.drop k) k tL∧pre.length≤k∧W.ownsRow w.heap.size 3 1 (.slice a pre.length cap) pre.length (ints pre)∧Only (fun _=>False) w W)
 case atStart=>exact⟨0,[],false,none,0,_,rfl,rfl,Nat.zero_le _,rfl,rfl,rfl,rfl,Nat.le_refl _,World.ownsRow_nil _ _ _ _,Only.refl _ _⟩
 case round=>
  obtain⟨k,pre,tL,a,cap,W,hW,rfl,hk,rfl,rfl,rfl,hal,hpk,hown,ho⟩:=hrel
  subst hW
  have HOW:=zH hown
  have CJ:=zH hal
  have HO:=zH ho
  by_cases hlt:k < nC
  ·have t1:(k:Int) <(nC:Int):=by omega
   obtain⟨x,hx⟩:∃x,C[k]?=some x:=⟨_,List.getElem?_eq_getElem (by rw [HC.out.1];exact hlt)⟩
   have HX:=zH hx
   have hcl:=CL (n:=x) (c:=(nT:Int)) (by omega)
   obtain⟨q,hq⟩:∃q:Nat,fF x nT=(q:Int):=⟨(fF x nT).toNat,by omega⟩
   have HQ:=zH hq
   have Lb:q < 32:=by omega
   obtain⟨bC,oC,rfl,Tj,hcC⟩:=HC.out.at (by omega)
   have Tm:b < w.heap.size:=(Array.getElem?_eq_some_iff.1 HM.out).1
   have lC:bC < W.heap.size:=Nat.lt_of_lt_of_le Tj ho.size
   have p0:=hcC W ho k _ hx
   have iP:Hid (Mz W b jn af (.slice aT nT cT) vD lN lO rN rO):=(ho.block b Tm (fun h=>h)).trans HM.out
   have lb:b < W.heap.size:=(Array.getElem?_eq_some_iff.1 iP.out).1
   have p1:W.cell? ⟨b,0,none⟩=some (.int .u32 jn):=ae iP.out
   obtain⟨bj,hbj⟩:∃bj,bj=mM jn (fF x nT):=⟨_,rfl⟩
   have HB:Hid (mM jn (fF x nT)=bj):=hbj.symm
   have HBJ:Hid (decide (jn / 2 ^ q % 2=1)=bj):=by
    show _=_
    rw [hbj,hq]
    rfl
   clear hown hal ho hx hq hcl hcC hbj
   cases tL with
   | false=>
    go_wp2_with (first |(go_at_call 13;refine (d_ b jn af _ nT cT vD lN lO rN rO _ iP.out).mono ?_;rintro e w2 ⟨rfl,hw2⟩;have hw2:=hw2.symm;subst hw2) |(go_at_call 24;refine (fw x (nT:Int) _).mono ?_;rintro e w2 ⟨rfl,hw2⟩;have hw2:=hw2.symm;subst hw2;rw [HQ.out]) |(go_at_call_of 25 (Value.int .u32 af);refine (kI af q ha0 ha1 Lb _).mono ?_;rintro e w2 ⟨rfl,hw2⟩;have hw2:=hw2.symm;subst hw2) |(go_at_call 25;refine (kI jn q hj0 hj1 Lb _).mono ?_;rintro e w2 ⟨rfl,hw2⟩;have hw2:=hw2.symm;subst hw2;rw [HBJ.out]) |(at_builtin;refine wpList_append_own_at _ rfl _ _ 28 rfl w.heap.size 3 i0 (.int .i64 0) 1 8 Tryz.underlying28 hi hz0 hz1 hz2 rfl (by decide) _ _ _ rfl (HOW.out.alloc (.cells #[.int .i64 (k:Int)] 3)) ⟨W.heap.size,0,none⟩ 1 1 [.int .i64 (k:Int)] rfl rfl (ja _ _ _) (fun u hu=>by simp at hu;subst hu;rfl) (by unfold maxLen;omega) (by omega) (by have:=HO.out.size;simp;omega) ?_;intro v6 w6 hown6 kE _ _;have ED:Hid (Only (fun _=>False) w w6):=(((HO.out.mono (fun _ h=>h.elim)).trans (((Only.refl _ _).alloc _).grown kE (fun k h=>h))).old (fun g hg=>Or.inl (HOW.out.lt g hg).1));obtain⟨g6,cap6,rfl,Ri,Rj,Rk,_⟩:=ax hown6 (by omega);have Cn:=zH hown6;have p6:w6.cell? ⟨b,1,none⟩=some (.int .u32 af):=ae ((ED.out.block b Tm (fun h=>h)).trans HM.out);have lb6:b < w6.heap.size:=Nat.lt_of_lt_of_le Tm ED.out.size;clear hown6 kE))
    go_roundg (nC -(k+1))
    case measure=>omega
    case rel=>
     refine⟨k+1,pre++[(k:Int)],mM af (fF x nT),some ⟨g6,0,none⟩,cap6,_,rfl,rfl,by omega,by rw [List.length_append];rfl,by rw [HQ.out];rfl,by go_num,?_,by rw [List.length_append];simp;omega,?_,ED.out⟩
     ·rw [CJ.out,A7 HX.out (fun h=>absurd h.1 (by decide)),List.append_assoc]
      rfl
     ·have:=Cn.out
      rw [List.length_append]
      unfold ints at this ⊢
      rw [List.map_append]
      exact this
   | true=>
    cases bj with
    | false=>
     go_wp2_with (first |(go_at_call 13;refine (d_ b jn af _ nT cT vD lN lO rN rO _ iP.out).mono ?_;rintro e w2 ⟨rfl,hw2⟩;have hw2:=hw2.symm;subst hw2) |(go_at_call 24;refine (fw x (nT:Int) _).mono ?_;rintro e w2 ⟨rfl,hw2⟩;have hw2:=hw2.symm;subst hw2;rw [HQ.out]) |(go_at_call_of 25 (Value.int .u32 af);refine (kI af q ha0 ha1 Lb _).mono ?_;rintro e w2 ⟨rfl,hw2⟩;have hw2:=hw2.symm;subst hw2) |(go_at_call 25;refine (kI jn q hj0 hj1 Lb _).mono ?_;rintro e w2 ⟨rfl,hw2⟩;have hw2:=hw2.symm;subst hw2;rw [HBJ.out]) |(at_builtin;refine wpList_append_own_at _ rfl _ _ 28 rfl w.heap.size 3 i0 (.int .i64 0) 1 8 Tryz.underlying28 hi hz0 hz1 hz2 rfl (by decide) _ _ _ rfl (HOW.out.alloc (.cells #[.int .i64 (k:Int)] 3)) ⟨W.heap.size,0,none⟩ 1 1 [.int .i64 (k:Int)] rfl rfl (ja _ _ _) (fun u hu=>by simp at hu;subst hu;rfl) (by unfold maxLen;omega) (by omega) (by have:=HO.out.size;simp;omega) ?_;intro v6 w6 hown6 kE _ _;have ED:Hid (Only (fun _=>False) w w6):=(((HO.out.mono (fun _ h=>h.elim)).trans (((Only.refl _ _).alloc _).grown kE (fun k h=>h))).old (fun g hg=>Or.inl (HOW.out.lt g hg).1));obtain⟨g6,cap6,rfl,Ri,Rj,Rk,_⟩:=ax hown6 (by omega);have Cn:=zH hown6;have p6:w6.cell? ⟨b,1,none⟩=some (.int .u32 af):=ae ((ED.out.block b Tm (fun h=>h)).trans HM.out);have lb6:b < w6.heap.size:=Nat.lt_of_lt_of_le Tm ED.out.size;clear hown6 kE))
     go_roundg (nC -(k+1))
     case measure=>omega
     case rel=>
      refine⟨k+1,pre++[(k:Int)],mM af (fF x nT),some ⟨g6,0,none⟩,cap6,_,rfl,rfl,by omega,by rw [List.length_append];rfl,by rw [HQ.out];rfl,by go_num,?_,by rw [List.length_append];simp;omega,?_,ED.out⟩
      ·rw [CJ.out,A7 HX.out (fun h=>by rw [HB.out] at h;exact absurd h.2 (by decide)),List.append_assoc]
       rfl
      ·have:=Cn.out
       rw [List.length_append]
       unfold ints at this ⊢
       rw [List.map_append]
       exact this
    | true=>
     go_wp2_with (first |(go_at_call 13;refine (d_ b jn af _ nT cT vD lN lO rN rO _ iP.out).mono ?_;rintro e w2 ⟨rfl,hw2⟩;have hw2:=hw2.symm;subst hw2) |(go_at_call 24;refine (fw x (nT:Int) _).mono ?_;rintro e w2 ⟨rfl,hw2⟩;have hw2:=hw2.symm;subst hw2;rw [HQ.out]) |(go_at_call 25;refine (kI jn q hj0 hj1 Lb _).mono ?_;rintro e w2 ⟨rfl,hw2⟩;have hw2:=hw2.symm;subst hw2;rw [HBJ.out]))
     go_roundg (nC -(k+1))
     case measure=>omega
     case rel=>exact⟨k+1,pre,true,a,cap,_,rfl,rfl,by omega,rfl,rfl,by go_num,by rw [CJ.out,OH HX.out ⟨rfl,HB.out⟩],by omega,HOW.out,HO.out⟩
  ·have t2:decide ((k:Int) <(nC:Int))=false:=decide_eq_false (by omega)
   have hkn:k=nC:=by omega
   subst hkn
   clear hown hal ho
   go_wp2_with fail
   go_ret
   refine⟨_,rfl,?_,HO.out⟩
   rw [CJ.out,List.drop_eq_nil_of_le (by rw [HC.out.1];exact Nat.le_refl _),al,List.append_nil]
   exact HOW.out
end Go.Proofs.YtdlabakleldgaaaGreatDoor
