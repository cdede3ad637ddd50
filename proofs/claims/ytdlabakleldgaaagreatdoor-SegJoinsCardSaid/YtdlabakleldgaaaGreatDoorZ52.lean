/- Sgj -/
import Derived.Test.YtdlabakleldgaaaGreatDoorZ00
import Derived.Test.YtdlabakleldgaaaGreatDoorZ40
import Derived.Test.YtdlabakleldgaaaGreatDoorZ50
import Derived.Test.YtdlabakleldgaaaGreatDoorZ51
import Derived.Test.YtdlabakleldgaaaGreatDoorZ46
set_option linter.unusedVariables false
set_option linter.unusedSimpArgs false
set_option maxRecDepth 100000
set_option maxHeartbeats 8000000
namespace Go.Proofs.YtdlabakleldgaaaGreatDoor
open Go.RowKit Go.Maps
open Rl (Ex)
theorem TS:(Tryz.prog.info? 4).map (fun i=>(i.zero,i.size,i.bytes))=some (some (.bool false),1,1):=by kernel_rfl
def Bl (w:World) (b:Nat) (l:List Bool):Prop:=w.heap[b]?=some (.cells (l.map Value.bool).toArray 4 (0,0))
theorem Pj (n:Nat):madeCells #[.bool false] n=((List.replicate n false).map Value.bool).toArray:=by
 apply Array.ext
 ·simp [size_madeCells]
 ·intro i h1 h2
  simp [madeCells,Nat.mod_one]
theorem Bl.set {w:World} {b:Nat} {l:List Bool} (h:Bl w b l) (i:Nat) (x:Bool):Bl (w.setCell ⟨b,i,none⟩ (.bool x)) b (l.set i x):=by
 have:=aa (k:=i) h (.bool x)
 rw [List.setIfInBounds_toArray,←List.map_set] at this
 exact this
theorem Bl.cell {w:World} {b i:Nat} {x:Bool} {l:List Bool} (h:Bl w b l) (hx:l[i]?=some x):w.cell? ⟨b,i,none⟩=some (.bool x):=by
 rw [ae h]
 simp [hx]
def Xx (n:Nat) (x:Int):Int:=1+(x % 18446744073709551616) %((n:Int) - 1)
def TT (v v':Value):Prop:=∀q,v.ownBlock=some q→v'.ownBlock≠some q
def R3 (w W:World) (v1 v2 v3:Value) (L1 L2 L3:List Int):Prop:=W.ownsRow w.heap.size 3 1 v1 L1.length (ints L1)∧W.ownsRow w.heap.size 3 1 v2 L2.length (ints L2)∧W.ownsRow w.heap.size 3 1 v3 L3.length (ints L3)∧TT v1 v2∧TT v1 v3∧TT v2 v3∧Only (fun _=>False) w W
theorem BF {v v':Value} (h:TT v v'):TT v' v:=fun q h1 h2=>h q h2 h1
theorem R3.BG {w W:World} {v1 v2 v3:Value} {L1 L2 L3:List Int} (h:R3 w W v1 v2 v3 L1 L2 L3):R3 w W v2 v3 v1 L2 L3 L1:=⟨h.2.1,h.2.2.1,h.1,h.2.2.2.2.2.1,BF h.2.2.2.1,BF h.2.2.2.2.1,h.2.2.2.2.2.2⟩
theorem R3.only {w W:World} {v1 v2 v3:Value} {L1 L2 L3:List Int} (h:R3 w W v1 v2 v3 L1 L2 L3):Only (fun _=>False) w W:=h.2.2.2.2.2.2
theorem R3.form {w W:World} {v1 v2 v3:Value} {L1 L2 L3:List Int} {n:Nat} (h:R3 w W v1 v2 v3 L1 L2 L3) (hn:n=L1.length):∃a c,v1=.slice a n c:=by rw [hn];exact L.ah h.1
theorem R3.nil (w:World):R3 w w (.slice none 0 0) (.slice none 0 0) (.slice none 0 0) [] [] []:=⟨World.ownsRow_nil _ _ _ _,World.ownsRow_nil _ _ _ _,World.ownsRow_nil _ _ _ _,(fun q h=>by cases h),(fun q h=>by cases h),(fun q h=>by cases h),Only.refl _ _⟩
theorem aQ {w w':World} {base e size n:Nat} {v:Value} {xs:List Value} {P:Nat→Prop} (h:w.ownsRow base e size v n xs) (ho:Only P w w') (hP:∀q,v.ownBlock=some q→¬ P q):w'.ownsRow base e size v n xs:=by
 obtain⟨h1,⟨h2,h3⟩ | ⟨g,cap,cur,rfl,hb,hg,hr⟩⟩:=h
 ·exact⟨h1,Or.inl ⟨h2,h3⟩⟩
 ·exact⟨h1,Or.inr ⟨g,cap,cur,rfl,hb,(ho.block g (Array.getElem?_eq_some_iff.1 hg).1 (hP g rfl)).trans hg,hr⟩⟩
theorem uI {w:World} {base e size n q:Nat} {v:Value} {xs:List Value} (h:w.ownsRow base e size v n xs) (hq:v.ownBlock=some q):q < w.heap.size:=by
 obtain⟨_,c,h⟩:=L.bz h hq
 exact (Array.getElem?_eq_some_iff.1 h).1
theorem R3.app {w W W':World} {v1 v2 v3 v':Value} {L1 L2 L3:List Int} {x:Int} {o:Obj} (h:R3 w W v1 v2 v3 L1 L2 L3) (hown:W'.ownsRow w.heap.size 3 1 v' (L1.length+1) (ints L1++[.int .i64 x])) (hg:(W.alloc o).grownBy W' v1.ownBlock) (hat:v'.ownBlock=v1.ownBlock∨v'.ownBlock=some (W.alloc o).heap.size):R3 w W' v' v2 v3 (L1++[x]) L2 L3:=by
 obtain⟨h1,h2,h3,d1,d2,d3,ho⟩:=h
 have ha:Only (fun _=>False) W (W.alloc o):=(Only.refl _ _).alloc _
 have hg':Only (fun q=>v1.ownBlock=some q) W W':=(ha.mono (fun _ h=>h.elim)).trans ((Only.refl _ _).grown hg (fun k h=>h))
 have hd:∀ {v:Value} {L:List Int},TT v1 v→W.ownsRow w.heap.size 3 1 v L.length (ints L)→TT v' v:=fun hd hv q hq hq'=>by
  rcases hat with e | e
  ·exact hd q (e.symm.trans hq) hq'
  ·have h5:=uI hv hq'
   rw [e] at hq
   injection hq with hq
   have:=ha.size
   omega
 refine⟨?_,aQ h2 hg' (fun q hq h=>d1 q h hq),aQ h3 hg' (fun q hq h=>d2 q h hq),hd d1 h2,hd d2 h3,d3,?_⟩
 ·rw [List.length_append]
  unfold ints at hown ⊢
  rw [List.map_append]
  exact hown
 ·exact ((ho.mono (fun _ h=>h.elim)).trans hg').old (fun q hq=>Or.inl (L.bz h1 hq).1)
theorem zk (c jo af:Nat) (aT:Option Addr) (nT cT:Nat) (T:List Nat) (aR:Option Addr) (nR cR:Nat) (rs:List Pr) (aC:Option Addr) (nC cC:Nat) (C:List Int) (aP:Option Addr) (nP cP:Nat) (PL:List Nat) (w:World) (hc:c≤255) (hT:Bw w aT nT T) (hR:Rw w aR nR rs) (hC:Iw w aC nC C) (hP:Bw w aP nP PL) (hTz:Tz w) (JV:nC≤maxLen) (Qj:nP≤maxLen):
  Calls Tryz.prog 4 #[jd c jo af aT nT cT aR nR cR,.slice aC nC cC,.slice aP nP cP] w fun e w'=>e=.returned (.bool true)∧Only (fun _=>False) w w':=by
 have HW:Hid (Bw w aT nT T∧Rw w aR nR rs∧Iw w aC nC C∧Bw w aP nP PL∧Tz w):=⟨hT,hR,hC,hP,hTz⟩
 clear hT hR hC hP hTz
 obtain⟨n,hn⟩:∃n,n=1+c % 6:=⟨_,rfl⟩
 have HCN:Hid (∀W,Calls Tryz.prog 9 #[jd c jo af aT nT cT aR nR cR] W fun e w'=>e=.returned (.int .i64 (n:Int))∧Only (fun _=>False) W w'):=fun W=>by rw [hn];exact uU c jo af aT nT cT aR nR cR W hc
 have Ut:Hid (∀W,Only (fun _=>False) w W→Calls Tryz.prog 6 #[.agg #[.int .u8 (c:Int),.int .u8 1,.int .u8 254,.slice aT nT cT,.slice aR nR cR]] W (mdP W n 1 254 T rs)):=fun W ho=>Mi c n 1 254 aT nT cT T aR nR cR rs W hn.symm hc (by decide) (by decide) (by decide) (HW.out.1.keep ho) (HW.out.2.1.keep ho)
 have hn16:1≤n∧n≤6:=by omega
 have HN:=zH hn16
 clear hn hc
 unfold jd at HCN ⊢
 go_enter Tryz.func4,Tryz.ntmps4
 go_upto_region 1 with fail
 obtain⟨qb,Ld⟩:∃x,x=w.heap.size:=⟨_,rfl⟩
 obtain⟨w0,hw0⟩:∃x,x=w.alloc (.cells #[.int .u8 (c:Int),.int .u8 (jo:Int),.int .u8 (af:Int),.slice aT nT cT,.slice aR nR cR] 25):=⟨_,rfl⟩
 have H0:Hid (vF w0 qb c jo af aT nT cT aR nR cR∧Only (fun _=>False) w w0∧qb=w.heap.size):=by
  rw [hw0,Ld]
  exact⟨heap_alloc_new w _,(Only.refl _ _).alloc _,rfl⟩
 rw [←hw0,←Ld]
 clear hw0 Ld
 go_wp2_with fail
 refine Calls.mono (DJ _ (HW.out.2.2.2.2.keep H0.out.2.1)) ?_
 rintro e w1 ⟨rfl,ho1⟩
 have H1:Hid (vF w1 qb c jo af aT nT cT aR nR cR∧Only (fun _=>False) w w1∧qb=w.heap.size):=⟨H0.out.1.keep ho1,H0.out.2.1.trans ho1,H0.out.2.2⟩
 clear H0 ho1
 have k0:w1.cell? ⟨qb,0,none⟩=some (.int .u8 (c:Int)):=(cell_of_row _ _ _ _ _ _ H1.out.1).trans rfl
 have k1:=H1.out.1.c1
 have k2:=H1.out.1.c2
 have k3:=H1.out.1.c3
 have k4:=H1.out.1.c4
 go_wp2_with fail
 refine Calls.mono (HCN.out _) ?_
 rintro e w2 ⟨rfl,ho2⟩
 clear k0 k1 k2 k3 k4 HCN
 have H2:Hid (vF w2 qb c jo af aT nT cT aR nR cR∧Only (fun _=>False) w w2∧qb=w.heap.size):=⟨H1.out.1.keep ho2,H1.out.2.1.trans ho2,H1.out.2.2⟩
 clear H1 ho2
 by_cases hn2:n < 2
 ·have t0:(n:Int) < 2:=by omega
  go_wp2_with fail
  go_ret
  exact⟨rfl,H2.out.2.1⟩
 have t0:¬(n:Int) < 2:=by omega
 by_cases aaJ:60 < nC
 ·have t1:(60:Int) <(nC:Int):=by omega
  go_wp2_with fail
  go_ret
  exact⟨rfl,H2.out.2.1⟩
 have t1:¬(60:Int) <(nC:Int):=by omega
 have k0:w2.cell? ⟨qb,0,none⟩=some (.int .u8 (c:Int)):=(cell_of_row _ _ _ _ _ _ H2.out.1).trans rfl
 have k1:=H2.out.1.c1
 have k2:=H2.out.1.c2
 have k3:=H2.out.1.c3
 have k4:=H2.out.1.c4
 have z1:w2.frozen? ⟨qb,1,none⟩=false:=ak H2.out.1 1
 have z2:w2.frozen? ⟨qb,2,none⟩=false:=ak H2.out.1 2
 have lq:qb < w2.heap.size:=(Array.getElem?_eq_some_iff.1 H2.out.1).1
 go_upto_region 7 with fail
 obtain⟨w3,hw3⟩:∃x,x=(w2.setCell ⟨qb,1,none⟩ (.int .u8 1)).setCell ⟨qb,2,none⟩ (.int .u8 254):=⟨_,rfl⟩
 have H3:Hid (w3.heap[qb]?=some (.cells #[.int .u8 (c:Int),.int .u8 1,.int .u8 254,.slice aT nT cT,.slice aR nR cR] 25 (0,0))∧Only (fun _=>False) w w3):=by
  rw [hw3]
  have hge:w.heap.size≤qb:=Nat.le_of_eq H2.out.2.2.symm
  exact⟨aa (k:=2) (aa (k:=1) H2.out.1 _) _,(H2.out.2.1.aS (p:=⟨qb,1,none⟩) hge _).aS (p:=⟨qb,2,none⟩) hge _⟩
 rw [←hw3]
 clear hw3 H2 k0 k1 k2 k3 k4 z1 z2 lq
 have k0:w3.cell? ⟨qb,0,none⟩=some (.int .u8 (c:Int)):=ae H3.out.1
 have k1:w3.cell? ⟨qb,1,none⟩=some (.int .u8 1):=ae H3.out.1
 have k2:w3.cell? ⟨qb,2,none⟩=some (.int .u8 254):=ae H3.out.1
 have k3:w3.cell? ⟨qb,3,none⟩=some (.slice aT nT cT):=ae H3.out.1
 have k4:w3.cell? ⟨qb,4,none⟩=some (.slice aR nR cR):=ae H3.out.1
 go_wp2_with fail
 refine Calls.mono (Ut.out _ H3.out.2) ?_
 rintro e w4 ⟨v,⟨a1,a2,a3,n1,c1,n2,c2,n3,c3,jv,av,rfl⟩,bI,hcase⟩
 have H4:Hid (Only (fun _=>False) w w4∧Only (fun _=>False) w3 w4):=⟨H3.out.2.trans bI,bI⟩
 clear k0 k1 k2 k3 k4 bI Ut
 rcases hcase with rfl | ⟨s,mb,nL,oL,Mo,oR,rfl,Qw,hL,hR,Lh⟩
 ·go_wp2_with fail
  go_ret
  exact⟨rfl,H4.out.1.alloc _⟩
 have HS:Hid (Rl.Made n 1 254 T rs s∧Au.make (s.list.map (·.left)) (n:Int)=.ok (nL,oL)∧Au.make (Au.turns (s.list.map (·.right))) (n:Int)=.ok (Mo,oR)):=⟨Qw,hL,hR⟩
 have MC:=zH Lh
 clear Qw hL hR Lh
 go_upto_region 12 with fail
 obtain⟨w5,FZ⟩:∃x,x=w4.alloc (.cells #[.slice a1 n1 c1,.int .u32 jv,.int .u32 av,.slice a2 n2 c2,.slice a3 n3 c3] 35):=⟨_,rfl⟩
 have H5:Hid (qC w5 w3.heap.size mb s n s.list.length nL oL Mo oR∧Iw w5 aC nC C∧Bw w5 aP nP PL∧Tz w5∧Only (fun _=>False) w w5):=by
  have h45:Only (fun _=>False) w4 w5:=by rw [FZ];exact (Only.refl _ _).alloc _
  have h5:=H4.out.1.trans h45
  exact⟨MC.out.keep h45,HW.out.2.2.1.keep h5,HW.out.2.2.2.1.keep h5,HW.out.2.2.2.2.keep h5,h5⟩
 rw [←FZ]
 clear FZ H3 H4 MC HW
 have Xy:2≤n:=by omega
 have Er:Hid (2≤n∧n≤6∧nC≤60):=⟨Xy,HN.out.2,by omega⟩
 obtain⟨V,hV⟩:∃V,V=C.map (Xx n):=⟨_,rfl⟩
 have HV:=zH hV
 obtain⟨Z,hZ⟩:∃Z:Nat→Nat,Z=fun i=>if i < nP then (PL[i]?.getD 0) % 3 else 0:=⟨_,rfl⟩
 have HZ:=zH hZ
 obtain⟨i0,hi,hz0,hz1,hz2⟩:=info_parts info3'
 clear HN hn16 hn2 Xy aaJ t0 t1 hV hZ
 go_wp2_with fail
 go_loopg [11,12,13,45] nC (fun gh v11 v12 v13 v45 wr=>∃(k:Nat) (W:World),W=wr∧gh=nC - k∧k≤nC∧v45=.int .i64 (k:Int)∧R3 w5 W v11 v12 v13 (V.take k) (oI V Z k) (BA V Z k)∧k≤V.length)
 case atStart=>exact⟨0,_,rfl,rfl,Nat.zero_le _,rfl,R3.nil w5,Nat.zero_le _⟩
 case round=>
  obtain⟨k,W,hW,rfl,hk,rfl,h3,hkV⟩:=hrel
  subst hW
  obtain⟨L1,hL1⟩:∃L,L=V.take k:=⟨_,rfl⟩
  obtain⟨L2,hL2⟩:∃L,L=oI V Z k:=⟨_,rfl⟩
  obtain⟨L3,hL3⟩:∃L,L=BA V Z k:=⟨_,rfl⟩
  obtain⟨l1,hl1⟩:∃x,x=L1.length:=⟨_,rfl⟩
  obtain⟨l2,hl2⟩:∃x,x=L2.length:=⟨_,rfl⟩
  obtain⟨l3,hl3⟩:∃x,x=L3.length:=⟨_,rfl⟩
  have HL:Hid (L1=V.take k∧L2=oI V Z k∧L3=BA V Z k∧l1=L1.length∧l2=L2.length∧l3=L3.length∧k≤V.length∧k≤nC):=⟨hL1,hL2,hL3,hl1,hl2,hl3,hkV,hk⟩
  have Pm:Hid (l1≤60∧l2≤180∧l3≤60):=by
   have h60:=Er.out.2.2
   have hz2:∀i,Z i≤2:=fun i=>by
    rw [HZ.out]
    show (if i < nP then (PL[i]?.getD 0) % 3 else 0)≤2
    split <;> omega
   have e2:=FE V Z hz2 k
   rw [hl1,hl2,hl3,hL1,hL2,hL3,qz,List.length_take]
   exact⟨by omega,by omega,by omega⟩
  rw [←hL1,←hL2,←hL3] at h3
  obtain⟨JP,c11,rfl⟩:=h3.form hl1
  obtain⟨a12,c12,rfl⟩:=h3.BG.form hl2
  obtain⟨a13,c13,rfl⟩:=h3.BG.BG.form hl3
  have H3:=zH h3
  clear h3 hkV hL1 hL2 hL3 hl1 hl2 hl3
  by_cases hlt:k < nC
  ·have t1:(k:Int) <(nC:Int):=by omega
   obtain⟨x,hx⟩:∃x,C[k]?=some x:=⟨_,List.getElem?_eq_getElem (by rw [H5.out.2.1.1];exact hlt)⟩
   have hVk:V[k]?=some (Xx n x):=by rw [HV.out,List.getElem?_map,hx];rfl
   obtain⟨y,hy⟩:∃y,y=Xx n x:=⟨_,rfl⟩
   rw [←hy] at hVk
   have HVK:=zH hVk
   obtain⟨m,hm⟩:∃m,m=n - 1:=⟨_,rfl⟩
   have hm':m+1=n∧1≤m∧m≤5:=by have:=Er.out;omega
   have u1:wrap64 ((n:Int) - 1)=(m:Int):=by unfold wrap64;omega
   have u2:IntKind.u64.wrap (m:Int)=(m:Int):=by rw [IntKind.wrap_u64];omega
   have u3:¬(m:Int)=0:=by omega
   have u4:wrap64 (1+wrap64 ((IntKind.u64.wrap x).tmod (m:Int)))=y:=by
    have e1:(n:Int) - 1=(m:Int):=by omega
    have h0:0≤IntKind.u64.wrap x:=wrap_u64_nonneg x
    rw [hy,Int.tmod_eq_emod_of_nonneg h0]
    unfold Xx
    rw [e1,←IntKind.wrap_u64 x]
    have h1:=Int.emod_nonneg (IntKind.u64.wrap x) (show (m:Int)≠0 by omega)
    have h2:=Int.emod_lt_of_pos (IntKind.u64.wrap x) (show (0:Int) <(m:Int) by omega)
    generalize (IntKind.u64.wrap x) %(m:Int)=r at h1 h2
    unfold wrap64
    omega
   obtain⟨bC,oC,rfl,Tj,hcC⟩:=H5.out.2.1.at (by omega)
   have lC:bC < W.heap.size:=Nat.lt_of_lt_of_le Tj H3.out.only.size
   have p0:=hcC W H3.out.only k _ hx
   have HM':=zH hm'
   clear hx hcC Tj hVk hy hm hm'
   go_upto_region 16 with fail
   clear u1 u2 u3
   have HSZ:Hid (w5.heap.size≤W.heap.size):=H3.out.only.size
   go_upto_region 17 with (at_builtin;refine wpList_append_own_at _ rfl _ _ 28 rfl w5.heap.size 3 i0 (.int .i64 0) 1 8 Tryz.underlying28 hi hz0 hz1 hz2 rfl (by decide) _ _ _ rfl (H3.out.1.alloc (.cells #[.int .i64 y] 3)) ⟨W.heap.size,0,none⟩ 1 1 [.int .i64 y] rfl rfl (ja _ _ _) (fun u hu=>by simp at hu;subst hu;rfl) (by rw [←HL.out.2.2.2.1];unfold maxLen;have:=Pm.out;omega) (by rw [←HL.out.2.2.2.1];have:=Pm.out;omega) (by have:=HSZ.out;simp;omega) ?_;intro v6 w6 hown6 kE _ GN;have H6:Hid (R3 w5 w6 v6 (.slice a12 l2 c12) (.slice a13 l3 c13) (L1++[y]) L2 L3):=H3.out.app hown6 kE GN;clear hown6 kE GN)
   have aaK:Hid (w5.heap.size≤w6.heap.size):=H6.out.only.size
   clear H3
   go_upto_region 18 with (at_builtin;refine wpList_append_own_at _ rfl _ _ 28 rfl w5.heap.size 3 i0 (.int .i64 0) 1 8 Tryz.underlying28 hi hz0 hz1 hz2 rfl (by decide) _ _ _ rfl (H6.out.BG.BG.1.alloc (.cells #[.int .i64 (l2:Int)] 3)) ⟨w6.heap.size,0,none⟩ 1 1 [.int .i64 (l2:Int)] rfl rfl (ja _ _ _) (fun u hu=>by simp at hu;subst hu;rfl) (by rw [←HL.out.2.2.2.2.2.1];unfold maxLen;have:=Pm.out;omega) (by rw [←HL.out.2.2.2.2.2.1];have:=Pm.out;omega) (by have:=aaK.out;simp;omega) ?_;intro v7 w7 jO J6 _ Oq;have H7:Hid (R3 w5 w7 v6 (.slice a12 l2 c12) v7 (L1++[y]) L2 (L3++[(l2:Int)])):=(H6.out.BG.BG.app jO J6 Oq).BG;clear jO J6 Oq)
   have aaL:Hid (w5.heap.size≤w7.heap.size):=H7.out.only.size
   clear H6
   go_upto_region 19 with (at_builtin;refine wpList_append_own_at _ rfl _ _ 28 rfl w5.heap.size 3 i0 (.int .i64 0) 1 8 Tryz.underlying28 hi hz0 hz1 hz2 rfl (by decide) _ _ _ rfl (H7.out.BG.1.alloc (.cells #[.int .i64 y] 3)) ⟨w7.heap.size,0,none⟩ 1 1 [.int .i64 y] rfl rfl (ja _ _ _) (fun u hu=>by simp at hu;subst hu;rfl) (by rw [←HL.out.2.2.2.2.1];unfold maxLen;have:=Pm.out;omega) (by rw [←HL.out.2.2.2.2.1];have:=Pm.out;omega) (by have:=aaL.out;simp;omega) ?_;intro v8 w8 nk PY _ Xz;have H8:Hid (R3 w5 w8 v6 v8 v7 (L1++[y]) (L2++[y]) (L3++[(l2:Int)])):=(H7.out.BG.app nk PY Xz).BG.BG;clear nk PY Xz)
   clear H7
   have EI:Hid (V.take (k+1)=L1++[y]∧BA V Z (k+1)=L3++[(l2:Int)]∧oI V Z (k+1)=L2++[y]++List.replicate (Z k) 0∧k+1≤V.length):=by
    have hk1:=(List.getElem?_eq_some_iff.1 HVK.out).1
    refine⟨?_,?_,?_,hk1⟩
    ·rw [HL.out.1,List.take_succ_eq_append_getElem hk1,(List.getElem?_eq_some_iff.1 HVK.out).2]
    ·rw [BC,HL.out.2.2.1,HL.out.2.2.2.2.1,HL.out.2.1]
     rfl
    ·rw [oI,HVK.out,HL.out.2.1,List.append_assoc]
     rfl
   by_cases hkP:k < nP
   ·have t2:(k:Int) <(nP:Int):=by omega
    have hbw:=H5.out.2.2.1.keep H8.out.only
    obtain⟨hPl,bP,oP,hP1,hP2⟩:=hbw
    obtain⟨rfl,lP⟩:=hP1 (by omega)
    obtain⟨px,hpx⟩:∃x,PL[k]?=some x:=⟨_,List.getElem?_eq_getElem (by omega)⟩
    obtain⟨aaZ,pc⟩:=hP2 k px hpx
    obtain⟨z,hz⟩:∃z,z=px % 3:=⟨_,rfl⟩
    have hZk:Z k=z:=by
     rw [HZ.out]
     show (if k < nP then (PL[k]?.getD 0) % 3 else 0)=z
     rw [if_pos hkP,hpx,hz]
     rfl
    have XC:Hid (Z k=z∧z≤2):=⟨hZk,by omega⟩
    have hmod:(px:Int).tmod 3=(z:Int):=by rw [Int.tmod_eq_emod_of_nonneg (by omega),hz];rfl
    clear hP1 hP2 hpx hZk hz hPl
    have HTZ:Hid (z≤2):=XC.out.2
    have abP:=XC.out.2
    go_wp2_with fail
    go_loopg [12,81] z (fun gh v12 v81 wr=>∃(j:Nat) (W':World) (vv:Value),W'=wr∧vv=v12∧gh=z - j∧j≤z∧v81=.int .i64 (j:Int)∧R3 w5 W' v6 vv v7 (L1++[y]) (L2++[y]++List.replicate j 0) (L3++[(l2:Int)]))
    case atStart=>exact⟨0,_,_,rfl,rfl,rfl,Nat.zero_le _,rfl,by rw [List.replicate_zero,List.append_nil];exact H8.out⟩
    case round=>
     obtain⟨j,Wj,vv,hWj,rfl,rfl,hj,rfl,hr⟩:=hrel
     subst hWj
     obtain⟨Q,hQ⟩:∃Q,Q=L2++[y]++List.replicate j 0:=⟨_,rfl⟩
     have HQ:=zH hQ
     rw [←hQ] at hr
     obtain⟨q,hq⟩:∃q,q=Q.length:=⟨_,rfl⟩
     have HQq:=zH hq
     obtain⟨a8,c8,rfl⟩:=hr.BG.form hq
     have HR:=zH hr
     clear hq
     have hql:Q.length=l2+1+j:=by rw [hQ,List.length_append,List.length_append,List.length_replicate,←HL.out.2.2.2.2.1];rfl
     have HQL:=zH hql
     have aaM:Hid (w5.heap.size≤Wj.heap.size):=hr.only.size
     clear hr hQ hql
     by_cases hlj:j < z
     ·have t3:(j:Int) <(z:Int):=by omega
      have HE:Hid (Q.length+1≤maxLen∧(Q.length+1)*8≤140737488355328):=by
       have:=Pm.out
       have:=HTZ.out
       rw [HQL.out]
       unfold maxLen
       exact⟨by omega,by omega⟩
      go_wp2_with (at_builtin;refine wpList_append_own_at _ rfl _ _ 28 rfl w5.heap.size 3 i0 (.int .i64 0) 1 8 Tryz.underlying28 hi hz0 hz1 hz2 rfl (by decide) _ _ _ rfl (HR.out.BG.1.alloc (.cells #[.int .i64 0] 3)) ⟨Wj.heap.size,0,none⟩ 1 1 [.int .i64 0] rfl rfl (ja _ _ _) (fun u hu=>by simp at hu;subst hu;rfl) HE.out.1 HE.out.2 (by have:=aaM.out;simp;omega) ?_;intro v9 w9 xz Qo _ OP;have H9:Hid (R3 w5 w9 v6 v9 v7 (L1++[y]) (Q++[0]) (L3++[(l2:Int)])):=(HR.out.BG.app xz Qo OP).BG.BG;clear xz Qo OP)
      go_roundg (z -(j+1))
      case measure=>omega
      case rel=>
       have h:=H9.out
       rw [HQ.out,List.append_assoc,←List.replicate_succ'] at h
       exact⟨j+1,_,_,rfl,rfl,rfl,by omega,by go_num,h⟩
     ·have t3:decide ((j:Int) <(z:Int))=false:=decide_eq_false (by omega)
      have hjz:j=z:=by omega
      subst hjz
      go_wp2_with fail
      go_roundg (nC -(k+1))
      case measure=>omega
      case rel=>
       have h:=HR.out
       rw [HQ.out,←XC.out.1,←EI.out.2.2.1,←EI.out.1,←EI.out.2.1] at h
       exact⟨k+1,_,rfl,rfl,hlt,by go_num,h,EI.out.2.2.2⟩
   ·have t2:¬(k:Int) <(nP:Int):=by omega
    have XC:Hid (Z k=0):=by
     rw [HZ.out]
     show (if k < nP then (PL[k]?.getD 0) % 3 else 0)=0
     rw [if_neg hkP]
    go_wp2_with fail
    go_roundg (nC -(k+1))
    case measure=>omega
    case rel=>
     have h:=H8.out
     have e:=EI.out.2.2.1
     rw [XC.out,List.replicate_zero,List.append_nil] at e
     rw [←e,←EI.out.1,←EI.out.2.1] at h
     exact⟨k+1,_,rfl,rfl,hlt,by go_num,h,EI.out.2.2.2⟩
  ·have t2:decide ((k:Int) <(nC:Int))=false:=decide_eq_false (by omega)
   have hkn:k=nC:=by have:=HL.out.2.2.2.2.2.2.2;omega
   subst hkn
   have HR3:Hid (R3 w5 W (.slice JP l1 c11) (.slice a12 l2 c12) (.slice a13 l3 c13) V (oI V Z V.length) (BA V Z V.length)∧l1=V.length∧l2=pz V Z V.length∧l3=V.length∧V.length≤60∧l2≤180):=by
    have hvl:V.length=k:=by rw [HV.out,List.length_map];exact H5.out.2.1.1
    have e1:L1=V:=by rw [HL.out.1,←hvl,List.take_length]
    have e2:=HL.out.2.1
    have e3:=HL.out.2.2.1
    rw [←hvl] at e2 e3
    refine⟨by have h:=H3.out;rw [e1,e2,e3] at h;exact h,by rw [HL.out.2.2.2.1,e1],by rw [HL.out.2.2.2.2.1,e2];rfl,by rw [HL.out.2.2.2.2.2.1,e3,qz],by rw [hvl];exact Er.out.2.2,Pm.out.2.1⟩
   have Ig:Qu V n:=fun y hy=>by
    rw [HV.out] at hy
    obtain⟨x,_,rfl⟩:=List.mem_map.1 hy
    have h2:=Er.out.1
    unfold Xx
    have h1:=Int.emod_nonneg (x % 18446744073709551616) (show (n:Int) - 1≠0 by omega)
    have h3:=Int.emod_lt_of_pos (x % 18446744073709551616) (show (0:Int) <(n:Int) - 1 by omega)
    omega
   have hjn:MS s.join s.after n∧(0≤s.join∧s.join < 4294967296)∧(0≤s.after∧s.after < 4294967296):=by
    obtain⟨h1,h2⟩:=HS.out.1.join (by decide)
    have h3:=jn0 Er.out.1 Er.out.2.1
    rw [h1,h2]
    exact⟨h3,qO _ _,qO _ _⟩
   obtain⟨RA,hRA⟩:∃R,R=iG s n nL oL Mo oR V.length V:=⟨_,rfl⟩
   obtain⟨RB,Xi⟩:∃R,R=iG s n nL oL Mo oR (pz V Z V.length) (oI V Z V.length):=⟨_,rfl⟩
   obtain⟨MA,hMA⟩:∃x,x=l1+1:=⟨_,rfl⟩
   obtain⟨MB,hMB⟩:∃x,x=l2+1:=⟨_,rfl⟩
   have TU:Hid (∀W' a (nC cC:Nat) (C:List Int),Only (fun _=>False) w5 W'→Iw W' a nC C→nC≤999→Calls Tryz.prog 8 #[.pointer (some ⟨mb,0,none⟩),.slice a nC cC] W' fun e w'=>∃g,e=.returned (.slice (some ⟨g,0,none⟩) (nC+1) (nC+1))∧W'.heap.size≤g∧Ub w' g (iG s n nL oL Mo oR nC C)∧Only (fun _=>False) W' w'):=fun W' a nC cC C ho hi hn=>oz s n s.list.length nL oL Mo oR w3.heap.size mb a nC cC C W' (H5.out.1.keep ho) HS.out.2.1 HS.out.2.2 rfl (by rw [HS.out.1.list];omega) HS.out.1.au (by have:=Er.out.1;omega) hjn.2.1 hjn.2.2 hi hn (H5.out.2.2.2.1.keep ho)
   have HA:Hid (∀W',Only (fun _=>False) W W'→Calls Tryz.prog 8 #[.pointer (some ⟨mb,0,none⟩),.slice JP l1 c11] W' fun e w'=>∃g,e=.returned (.slice (some ⟨g,0,none⟩) MA MA)∧W'.heap.size≤g∧Ub w' g RA∧Only (fun _=>False) W' w'):=fun W' ho=>by
    have h1:=HR3.out.1.1
    rw [←HR3.out.2.1] at h1
    rw [hMA,hRA,←HR3.out.2.1]
    exact TU.out W' JP l1 c11 V (HR3.out.1.only.trans ho) ((oq h1 HR3.out.2.1).keep ho) (by have:=HR3.out;omega)
   have HB:Hid (∀W',Only (fun _=>False) W W'→Calls Tryz.prog 8 #[.pointer (some ⟨mb,0,none⟩),.slice a12 l2 c12] W' fun e w'=>∃g,e=.returned (.slice (some ⟨g,0,none⟩) MB MB)∧W'.heap.size≤g∧Ub w' g RB∧Only (fun _=>False) W' w'):=fun W' ho=>by
    have h1:=HR3.out.1.2.1
    rw [show (oI V Z V.length).length=l2 from HR3.out.2.2.1.symm] at h1
    rw [hMB,Xi,←HR3.out.2.2.1]
    exact TU.out W' a12 l2 c12 (oI V Z V.length) (HR3.out.1.only.trans ho) ((oq h1 HR3.out.2.2.1).keep ho) (by have:=HR3.out;omega)
   obtain⟨m,hm⟩:∃m,m=V.length:=⟨_,rfl⟩
   have HF:Hid ((∀i,i < m→∃e,RA[i]?=some e∧RB[pz V Z i]?=some e)∧(∀j,j < l2→(∀i,i < m→pz V Z i≠j)→RB[j]?=some 0)∧RB[l2]?=some 2∧(∀i,i < m→pz V Z i < l2)):=by
    rw [hRA,Xi,hm,HR3.out.2.2.1]
    refine⟨fun i hi=>⟨_,(Mm s hjn.1 Ig Z nL oL Mo oR hi).trans (zi s hjn.1 Ig Z nL oL Mo oR hi),zi s hjn.1 Ig Z nL oL Mo oR hi⟩,fun j hj hne=>Ph s hjn.1 Ig Z nL oL Mo oR hj hne,Ml s hjn.1 Ig Z nL oL Mo oR,fun i hi=>su V Z hi⟩
   have HG:Hid (MA=l1+1∧MB=l2+1∧l1=m∧l3=m∧m≤60∧l2≤180∧W.ownsRow w5.heap.size 3 1 (.slice a13 l3 c13) m (ints (BA V Z m))∧Only (fun _=>False) w W):=by
    have h:=HR3.out
    rw [←hm] at h
    refine⟨hMA,hMB,h.2.1,h.2.2.2.1,h.2.2.2.2.1,h.2.2.2.2.2,?_,H5.out.2.2.2.2.trans h.1.only⟩
    have h2:=h.1.2.2.1
    rw [qz] at h2
    exact h2
   clear hRA Xi hMA hMB Ig hjn hm TU HR3 H5 HL Pm H3 HS HV
   go_wp2_with fail
   refine Calls.mono (HA.out _ (Only.refl _ _)) ?_
   rintro e x1 ⟨gA,rfl,_,hA,hx1⟩
   have Il:Hid (Ub x1 gA RA∧Only (fun _=>False) W x1):=⟨hA,hx1⟩
   clear hA hx1 HA
   go_wp2_with fail
   refine Calls.mono (HB.out _ Il.out.2) ?_
   rintro e x2 ⟨gB,rfl,_,hB,hx2⟩
   have TV:Hid (Ub x2 gA RA∧Ub x2 gB RB∧Only (fun _=>False) W x2):=⟨Il.out.1.dG hx2,hB,Il.out.2.trans hx2⟩
   clear hB hx2 HB Il
   have hmb:MB≤181:=by have:=HG.out;omega
   have hmk:=fun (w:World)=>run_make_row' (P:=Tryz.prog) 44 4 (.bool false) 1 Tryz.underlying44 TS rfl .i64 .i64 MB (by omega) (by omega) w
   go_upto_region 27 with fail
   obtain⟨gS,Yz⟩:∃x,x=x2.heap.size:=⟨_,rfl⟩
   obtain⟨x3,hx3⟩:∃x,x=x2.alloc (.cells (madeCells #[.bool false] MB) 4):=⟨_,rfl⟩
   obtain⟨S0,hS0⟩:∃S,S=List.replicate MB false:=⟨_,rfl⟩
   have tF:Hid (Bl x3 gS S0∧S0.length=MB∧Ub x3 gA RA∧Ub x3 gB RB∧Only (fun _=>False) W x3∧gA≠gS∧gB≠gS∧W.heap.size≤gS):=by
    have ha:Only (fun _=>False) x2 x3:=by rw [hx3];exact (Only.refl _ _).alloc _
    refine⟨?_,by rw [hS0,List.length_replicate],TV.out.1.dG ha,TV.out.2.1.dG ha,TV.out.2.2.trans ha,?_,?_,by rw [Yz];exact TV.out.2.2.size⟩
    ·unfold Bl
     rw [hS0,←Pj,hx3,Yz]
     exact heap_alloc_new _ _
    ·have:=TV.out.1.lt
     omega
    ·have:=TV.out.2.1.lt
     omega
   rw [←hx3,←Yz]
   clear hx3 Yz hS0 TV hmk hmb
   have hlm:l3=m:=HG.out.2.2.2.1
   subst hlm
   have abQ:=HG.out.2.2.2.2.1
   go_wp2_with fail
   go_loopg [99] l3 (fun gh v99 wr=>∃(i:Nat) (Y:World) (S:List Bool),Y=wr∧gh=l3 - i∧i≤l3∧v99=.int .i64 (i:Int)∧Bl Y gS S∧S.length=MB∧(∀j,j < i→S[pz V Z j]?=some true)∧Only (·=gS) x3 Y)
   case atStart=>exact⟨0,_,S0,rfl,rfl,Nat.zero_le _,rfl,tF.out.1,tF.out.2.1,(fun j h=>absurd h (Nat.not_lt_zero j)),Only.refl _ _⟩
   case round=>
    obtain⟨i,Y,S,hY,rfl,hi3,rfl,hbl,hSl,hSt,zn⟩:=hrel
    subst hY
    have HY:Hid (Bl Y gS S∧S.length=MB∧(∀j,j < i→S[pz V Z j]?=some true)∧Only (·=gS) x3 Y∧Ub Y gA RA∧Ub Y gB RB):=⟨hbl,hSl,hSt,zn,(zn.block gA tF.out.2.2.1.lt tF.out.2.2.2.2.2.1).trans tF.out.2.2.1,(zn.block gB tF.out.2.2.2.1.lt tF.out.2.2.2.2.2.2.1).trans tF.out.2.2.2.1⟩
    clear hbl hSl hSt zn
    by_cases hlt:i < l3
    ·have t1:(i:Int) <(l3:Int):=by omega
     obtain⟨gT,cT',hsl,YA,_,WH⟩:=L.bU HG.out.2.2.2.2.2.2.1 (by omega)
     injection hsl with hs1 hs2 hs3
     subst hs1
     subst hs3
     have hTS:gT≠gS:=by have:=tF.out.2.2.2.2.2.2.2;omega
     obtain⟨p,hp⟩:∃p,p=pz V Z i:=⟨_,rfl⟩
     have c0:Y.cell? ⟨gT,i,none⟩=some (.int .i64 (p:Int)):=by
      have h1:=WH i (.int .i64 (p:Int)) (by unfold ints;rw [List.getElem?_map,DZ V Z hlt,hp];rfl)
      exact (World.cell?_of_block (a:=⟨gT,i,none⟩) (HY.out.2.2.2.1.block gT (Nat.lt_of_lt_of_le YA tF.out.2.2.2.2.1.size) hTS)).trans ((World.cell?_of_block (a:=⟨gT,i,none⟩) (tF.out.2.2.2.2.1.block gT YA (fun h=>h))).trans h1)
     have lT:gT < Y.heap.size:=Nat.lt_of_lt_of_le YA (Nat.le_trans tF.out.2.2.2.2.1.size HY.out.2.2.2.1.size)
     have hp1:p < l2:=by rw [hp];exact HF.out.2.2.2 i hlt
     have hp2:(p:Int) <(MB:Int):=by have:=HG.out;omega
     have hp3:p < MB:=by omega
     obtain⟨ev,he1,he2⟩:=HF.out.1 i hlt
     rw [←hp] at he2
     have HE:Hid (RA[i]?=some ev∧RB[p]?=some ev∧p=pz V Z i):=⟨he1,he2,hp⟩
     obtain⟨z,hz⟩:∃z,S[p]?=some z:=⟨_,List.getElem?_eq_getElem (by rw [HY.out.2.1];exact hp3)⟩
     have s0:=HY.out.1.cell hz
     have s1:Y.frozen? ⟨gS,p,none⟩=false:=ak HY.out.1 p
     have lS:gS < Y.heap.size:=(Array.getElem?_eq_some_iff.1 HY.out.1).1
     have hi4:(i:Int) <(MA:Int):=by have:=HG.out;omega
     clear WH YA hs2 hp he1 he2 hz
     go_upto_region 31 with fail
     obtain⟨Y1,OV⟩:∃x,x=Y.setCell ⟨gS,p,none⟩ (.bool true):=⟨_,rfl⟩
     have H1:Hid (Bl Y1 gS (S.set p true)∧Only (·=gS) x3 Y1∧Ub Y1 gA RA∧Ub Y1 gB RB):=by
      have h1:Only (·=gS) Y Y1:=by rw [OV];exact (Only.refl (·=gS) Y).setCell (p:=⟨gS,p,none⟩) rfl _
      exact⟨by rw [OV];exact HY.out.1.set p true,HY.out.2.2.2.1.trans h1,(h1.block gA HY.out.2.2.2.2.1.lt tF.out.2.2.2.2.2.1).trans HY.out.2.2.2.2.1,(h1.block gB HY.out.2.2.2.2.2.lt tF.out.2.2.2.2.2.2.1).trans HY.out.2.2.2.2.2⟩
     rw [←OV]
     clear OV s0 s1 lS c0 lT
     have s2:=H1.out.2.2.1.cell HE.out.1
     have s3:=H1.out.2.2.2.cell HE.out.2.1
     have lA:=H1.out.2.2.1.lt
     have lB:=H1.out.2.2.2.lt
     go_quiet (fail)
     go_wp2_with fail
     go_roundg (l3 -(i+1))
     case measure=>omega
     case rel=>
      refine⟨i+1,_,S.set p true,rfl,rfl,hlt,by go_num,H1.out.1,by rw [List.length_set];exact HY.out.2.1,fun j hj=>?_,H1.out.2.1.drewN _⟩
      rw [HE.out.2.2]
      by_cases e:j=i
      ·subst e
       exact List.getElem?_set_self (by rw [HY.out.2.1,←HE.out.2.2];exact hp3)
      ·rw [List.getElem?_set_ne (Mj V Z (fun h=>e h.symm))]
       exact HY.out.2.2.1 j (by omega)
    ·have t1:decide ((i:Int) <(l3:Int))=false:=decide_eq_false (by omega)
     obtain rfl:i=l3:=by omega
     have Mq:Hid (MB=l2+1∧l2≤180∧Only (fun _=>False) w W∧(∀q,q < l2→(∀j,j < i→pz V Z j≠q)→RB[q]?=some 0)∧RB[l2]?=some 2∧Only (fun _=>False) W x3∧W.heap.size≤gS):=⟨HG.out.2.1,HG.out.2.2.2.2.2.1,HG.out.2.2.2.2.2.2.2,HF.out.2.1,HF.out.2.2.1,tF.out.2.2.2.2.1,tF.out.2.2.2.2.2.2.2⟩
     have hl2:=Mq.out.2.1
     clear HG HF
     go_wp2_with fail
     go_loopg [119] l2 (fun gh aaN wr=>∃(q:Nat),Y=wr∧gh=l2 - q∧q≤l2∧aaN=.int .i64 (q:Int))
     case atStart=>exact⟨0,rfl,rfl,Nat.zero_le _,rfl⟩
     case round=>
      obtain⟨q,rfl,rfl,hq,rfl⟩:=hrel
      have lB:=HY.out.2.2.2.2.2.lt
      by_cases hlq:q < l2
      ·have t2:(q:Int) <(l2:Int):=by omega
       have t3:(q:Int) <(MB:Int):=by have:=Mq.out.1;omega
       obtain⟨z,hz⟩:∃z,S[q]?=some z:=⟨_,List.getElem?_eq_getElem (by rw [HY.out.2.1];have:=Mq.out.1;omega)⟩
       have s0:=HY.out.1.cell hz
       have lS:gS < Y.heap.size:=(Array.getElem?_eq_some_iff.1 HY.out.1).1
       cases z with
       | true=>
        clear hz
        go_wp2_with fail
        go_roundg (l2 -(q+1))
        case measure=>omega
        case rel=>exact⟨q+1,rfl,rfl,hlq,by go_num⟩
       | false=>
        have s1:=HY.out.2.2.2.2.2.cell (Mq.out.2.2.2.1 q hlq (fun j hj e=>by
         have h:=HY.out.2.2.1 j hj
         rw [e,hz] at h
         injection h with h
         cases h))
        clear hz
        go_wp2_with fail
        go_roundg (l2 -(q+1))
        case measure=>omega
        case rel=>exact⟨q+1,rfl,rfl,hlq,by go_num⟩
      ·have t2:decide ((q:Int) <(l2:Int))=false:=decide_eq_false (by omega)
       obtain rfl:q=l2:=by omega
       have s1:=HY.out.2.2.2.2.2.cell Mq.out.2.2.2.2.1
       have t3:(q:Int) <(MB:Int):=by have:=Mq.out.1;omega
       have t4:(MB:Int)=(q:Int)+1:=by have:=Mq.out.1;omega
       have t5:((MB:Int)==(q:Int)+1)=true:=by rw [t4];exact beq_self_eq_true _
       clear t4
       have aaO:Hid (Only (fun _=>False) w Y):=(((Mq.out.2.2.1.trans Mq.out.2.2.2.2.2.1).mono (S':=(·=gS)) (fun _ h=>h.elim)).trans HY.out.2.2.2.1).old (fun b hb=>Or.inl (by rw [hb];exact Nat.le_trans Mq.out.2.2.1.size Mq.out.2.2.2.2.2.2))
       go_wp2_with fail
       go_ret
       exact⟨rfl,aaO.out⟩
end Go.Proofs.YtdlabakleldgaaaGreatDoor
