/- May Lines1 -/
import Derived.Test.YtdlabakleldgaaaGreatDoorZ00
import Derived.Test.YtdlabakleldgaaaGreatDoorZ11
import Derived.Test.YtdlabakleldgaaaGreatDoorZ09
set_option linter.unusedVariables false
set_option linter.unusedSimpArgs false
set_option maxRecDepth 100000
set_option maxHeartbeats 8000000
namespace Go.Proofs.YtdlabakleldgaaaGreatDoor
open Go.RowKit Go.Maps
def gH (nx:Nat→Nat) (fs S k:Nat):Nat:=(List.range k).foldl (fun m i=>if S.testBit i=true then m ||| nx i else m) fs
theorem wQ (nx:Nat→Nat) (fs S k:Nat):gH nx fs S (k+1)=if S.testBit k=true then gH nx fs S k ||| nx k else gH nx fs S k:=by
 unfold gH
 rw [List.range_succ,List.foldl_append]
 rfl
theorem Js (g cl n:Nat) (b nx:Nat→Nat) (fs:Nat) (vL:Value) (em S:Nat) (w:World) (hP:dN w g cl n b nx fs vL em) (hn:n≤200):
  Calls Tryz.prog 80 #[.pointer (some ⟨g,0,none⟩),sV S] w fun e w'=>e=.returned (sV (gH nx fs S n))∧Only (fun _=>False) w w':=by
 have hlt:=hP.lt
 have hlt1:g < w.heap.size+1:=by omega
 have hlt2:g < w.heap.size+1+1:=by omega
 have HP:=zH hP
 have hc1:=hP.c1
 have e0:w.cell? ⟨g,898,none⟩=some (.int .u64 (wd fs 0:Int)):=(ae hP).trans (gF _ _ _ _ _ _ _ 0 (by decide))
 have e1:w.cell? ⟨g,899,none⟩=some (.int .u64 (wd fs 1:Int)):=(ae hP).trans (gF _ _ _ _ _ _ _ 1 (by decide))
 have e2:w.cell? ⟨g,900,none⟩=some (.int .u64 (wd fs 2:Int)):=(ae hP).trans (gF _ _ _ _ _ _ _ 2 (by decide))
 have e3:w.cell? ⟨g,901,none⟩=some (.int .u64 (wd fs 3:Int)):=(ae hP).trans (gF _ _ _ _ _ _ _ 3 (by decide))
 clear hP
 have z4:#[Value.int .u64 0,.int .u64 0,.int .u64 0,.int .u64 0]=sC 0:=by simp [sC,bL]
 have S0:Hid (Sb (((w.alloc (.cells (sC S) 124)).alloc (.cells #[.int .u64 0,.int .u64 0,.int .u64 0,.int .u64 0] 124)).alloc (.cells (sC fs) 124)) w.heap.size S):=((Sb.new w S).alloc _).alloc _
 have S1:Hid (Sb (((w.alloc (.cells (sC S) 124)).alloc (.cells #[.int .u64 0,.int .u64 0,.int .u64 0,.int .u64 0] 124)).alloc (.cells (sC fs) 124)) (w.heap.size+1) 0):=by rw [z4];exact Sb.alloc (heap_alloc2_new _ _ _) _
 have S2:Hid (Sb (((w.alloc (.cells (sC S) 124)).alloc (.cells #[.int .u64 0,.int .u64 0,.int .u64 0,.int .u64 0] 124)).alloc (.cells (sC fs) 124)) (w.heap.size+1+1) fs):=bS _ _ _ _
 have O0:Hid (Only (fun h=>w.heap.size≤h) w (((w.alloc (.cells (sC S) 124)).alloc (.cells #[.int .u64 0,.int .u64 0,.int .u64 0,.int .u64 0] 124)).alloc (.cells (sC fs) 124))):=(((Only.refl _ _).alloc _).alloc _).alloc _
 clear z4
 unfold sV
 unfold sC at S0 S1 S2 O0 ⊢
 go_enter Tryz.func80,Tryz.ntmps80
 go_wp2_with fail
 go_loopg [15] n (fun gh v wr=>∃(k:Nat) (W:World),W=wr∧gh=n - k∧k≤n∧v=.int .i64 (k:Int)∧Sb W w.heap.size S∧Sb W (w.heap.size+1) 0∧Sb W (w.heap.size+1+1) (gH nx fs S k)∧Only (fun h=>w.heap.size≤h) w W)
 case atStart=>exact⟨0,_,rfl,rfl,Nat.zero_le _,rfl,S0.out,S1.out,S2.out,O0.out⟩
 case round=>
  obtain⟨k,W,hW,rfl,hk,rfl,hA,hB,hC,hO⟩:=hrel
  subst hW
  have HA:=zH hA
  have HB:=zH hB
  have HC:=zH hC
  have HO:=zH hO
  clear hA hB hC hO S0 S1 S2 O0 e0 e1 e2 e3 hc1
  by_cases mH:k < n
  ·have t1:(k:Int) <(n:Int):=by omega
   have a0:=HA.out.c 0 (by decide)
   have a1:=HA.out.c 1 (by decide)
   have a2:=HA.out.c 2 (by decide)
   have a3:=HA.out.c 3 (by decide)
   by_cases hbit:S.testBit k=true
   ·go_wp2_with (first |(go_at_call 104;refine (sU S k (by omega) _).mono ?_;rintro e w1 ⟨rfl,ho1⟩;have bu:=zH ho1;have hp1:=HP.out.only (HO.out.trans (ho1.mono (fun _ h=>h.elim))) (by omega);have b0:w1.cell? ⟨g,98+k*4,none⟩=some (.int .u64 (wd (nx k) 0:Int)):=(ae hp1).trans (by rw [Nat.mul_comm];exact ll _ _ _ _ _ _ _ k (by omega) 0 (by decide));have b1:w1.cell? ⟨g,98+k*4+1,none⟩=some (.int .u64 (wd (nx k) 1:Int)):=(ae hp1).trans (by rw [Nat.mul_comm];exact ll _ _ _ _ _ _ _ k (by omega) 1 (by decide));have b2:w1.cell? ⟨g,98+k*4+2,none⟩=some (.int .u64 (wd (nx k) 2:Int)):=(ae hp1).trans (by rw [Nat.mul_comm];exact ll _ _ _ _ _ _ _ k (by omega) 2 (by decide));have b3:w1.cell? ⟨g,98+k*4+3,none⟩=some (.int .u64 (wd (nx k) 3:Int)):=(ae hp1).trans (by rw [Nat.mul_comm];exact ll _ _ _ _ _ _ _ k (by omega) 3 (by decide));clear ho1 hp1) |(go_at_call 79;refine (dz (w.heap.size+1+1) 0 (gH nx fs S k) (nx k) _ 124 _ (HC.out.only bu.out (fun h=>h)) (fun j hj=>by rw [Nat.zero_add];exact zt _ j hj)).mono ?_;rintro e w2 ⟨rfl,hp2,ho2⟩))
    go_roundg (n -(k+1))
    case measure=>omega
    case rel=>
     refine⟨k+1,_,rfl,rfl,by omega,by go_num,(HA.out.only bu.out (fun h=>h)).only ho2 (by omega),(HB.out.only bu.out (fun h=>h)).only ho2 (by omega),?_,(HO.out.trans (bu.out.mono (fun _ h=>h.elim))).trans (ho2.mono (fun _ h=>by omega))⟩
     rw [wQ,if_pos hbit]
     rw [D8] at hp2
     exact hp2
   ·have hbf:S.testBit k=false:=by simpa using hbit
    go_wp2_with (go_at_call 104;refine (sU S k (by omega) _).mono ?_;rintro e w1 ⟨rfl,ho1⟩)
    go_roundg (n -(k+1))
    case measure=>omega
    case rel=>exact⟨k+1,_,rfl,rfl,by omega,by go_num,HA.out.only ho1 (fun h=>h),HB.out.only ho1 (fun h=>h),by rw [wQ,if_neg hbit];exact HC.out.only ho1 (fun h=>h),HO.out.trans (ho1.mono (fun _ h=>h.elim))⟩
  ·have t2:decide ((k:Int) <(n:Int))=false:=decide_eq_false (by omega)
   obtain rfl:k=n:=by omega
   go_wp2_with (first | refine wpList_load_row rfl 124 _ rfl (w.heap.size+1+1) rfl 124 _ (0,0) _ HC.out Tryz.underlying124 rfl xN ?_ |(refine wpList_store_rowAny rfl 124 _ _ rfl rfl (w.heap.size+1) (sC (gH nx fs S k)) rfl rfl 124 _ HB.out xN rfl (xO _) ?_;intro w3 h3 o3;have H3:=zH h3;have O3:=zH o3;clear h3 o3))
   refine bodyPost_ret (v:=sV (gH nx fs S k)) (wC rfl _ rfl H3.out) rfl ⟨rfl,?_⟩
   exact (HO.out.trans (O3.out.mono (fun _ h=>by omega))).old (fun _ h=>Or.inl h)
def Lw (w:World) (F:Nat→Prop) (v:Value) (Ls:List Nat):Prop:=∃a c,v=.slice a Ls.length c∧Ls.length≤c∧∀i S,Ls[i]?=some S→∃lb,a=some ⟨lb,0,none⟩∧F lb∧lb < w.heap.size∧∀j,j < 4→w.cell? ⟨lb,i*4+j,none⟩=some (.int .u64 (wd S j:Int))
theorem Lw.only {w w':World} {F P:Nat→Prop} {v:Value} {Ls:List Nat} (h:Lw w F v Ls) (ho:Only P w w') (hP:∀b,F b→¬ P b):Lw w' F v Ls:=by
 obtain⟨a,c,h1,h2,h3⟩:=h
 refine⟨a,c,h1,h2,fun i S hS=>?_⟩
 obtain⟨lb,k1,k2,k3,k4⟩:=h3 i S hS
 exact⟨lb,k1,k2,Nat.lt_of_lt_of_le k3 ho.size,fun j hj=>(World.cell?_of_block (a:=⟨lb,i*4+j,none⟩) (ho.block lb k3 (hP lb k2))).trans (k4 j hj)⟩
def vJ (Ls:List Nat) (S em k:Nat):Nat:=(List.range k).foldl (fun m i=>if S &&&(Ls[i]?.getD 0)≠0 then m ||| 2 ^ i else m) em
theorem wR (Ls:List Nat) (S em k:Nat):vJ Ls S em (k+1)=if S &&&(Ls[k]?.getD 0)≠0 then vJ Ls S em k ||| 2 ^ k else vJ Ls S em k:=by
 unfold vJ
 rw [List.range_succ,List.foldl_append]
 rfl
theorem Et (Ls:List Nat) (S em:Nat) (hem:em < 2 ^ 24):∀k,k≤24→vJ Ls S em k < 2 ^ 24
 | 0,_=>hem
 | k+1,h=>by
  rw [wR]
  have ih:=Et Ls S em hem k (by omega)
  split
  ·exact Nat.or_lt_two_pow ih (Nat.pow_lt_pow_right (by decide) (by omega))
  ·exact ih
theorem Jt {e k:Nat} (he:e < 2 ^ 24) (hk:k < 24):bits .or .u32 (e:Int) (IntKind.u32.wrap (2 ^ k))=((e ||| 2 ^ k:Nat):Int):=by
 have h:(2:Nat) ^ k < 2 ^ 24:=Nat.pow_lt_pow_right (by decide) hk
 have e1:IntKind.u32.wrap (2 ^ k)=((2 ^ k:Nat):Int):=by
  rw [IntKind.wrap_u32]
  have:((2:Int) ^ k)=((2 ^ k:Nat):Int):=by push_cast;rfl
  rw [this]
  generalize 2 ^ k=m at h
  omega
 rw [e1]
 exact u32_or_nat _ _ (Nat.lt_trans he (by decide)) (Nat.lt_trans h (by decide))
theorem Np (F:Nat→Prop) (g cl n:Nat) (b nx:Nat→Nat) (fs:Nat) (vL:Value) (em S:Nat) (Ls:List Nat) (w:World) (hP:dN w g cl n b nx fs vL em) (hL:Lw w F vL Ls) (hl:Ls.length≤24) (hem:em < 2 ^ 24) (hS:S < 2 ^ 256) (UU:∀x∈Ls,x < 2 ^ 256):
  Calls Tryz.prog 82 #[.pointer (some ⟨g,0,none⟩),sV S] w fun e w'=>e=.returned (.int .u32 (vJ Ls S em Ls.length:Int))∧Only (fun _=>False) w w':=by
 have hlt:=hP.lt
 have hlt1:g < w.heap.size+1:=by omega
 obtain⟨a,c,rfl,hac,hcells⟩:=hL
 have e5:=hP.sG
 have e6:=hP.UB
 have HC:=zH hcells
 have HS:=zH hS
 have YT:=zH UU
 have HM:=zH hem
 clear hP hcells hS UU hem
 obtain⟨n1,hn1⟩:∃n1,n1=Ls.length:=⟨_,rfl⟩
 have HN:=zH hn1
 rw [←hn1] at hl hac e5 ⊢
 clear hn1
 have S0:Hid (Sb (w.alloc (.cells (sC S) 124)) w.heap.size S):=Sb.new w S
 have O0:Hid (Only (fun h=>w.heap.size≤h) w (w.alloc (.cells (sC S) 124))):=(Only.refl _ _).alloc _
 unfold sV
 unfold sC at S0 O0 ⊢
 go_enter Tryz.func82,Tryz.ntmps82
 go_wp2_with fail
 go_loopg [5,17] n1 (fun gh v u wr=>∃(k:Nat) (W:World),W=wr∧gh=n1 - k∧k≤n1∧v=.int .u32 (vJ Ls S em k:Int)∧u=.int .i64 (k:Int)∧Sb W w.heap.size S∧Only (fun h=>w.heap.size≤h) w W)
 case atStart=>exact⟨0,_,rfl,rfl,Nat.zero_le _,rfl,rfl,S0.out,O0.out⟩
 case round=>
  obtain⟨k,W,hW,rfl,hk,rfl,rfl,hA,hO⟩:=hrel
  subst hW
  have HA:=zH hA
  have HO:=zH hO
  have hwl:w.heap.size < W.heap.size:=hA.lt
  clear hA hO S0 O0 e5 e6
  by_cases mH:k < n1
  ·have t1:(k:Int) <(n1:Int):=by omega
   obtain⟨T,hT⟩:∃T,Ls[k]?=some T:=⟨_,List.getElem?_eq_getElem (by rw [←HN.out];exact mH)⟩
   obtain⟨lb,rfl,_,hlb,hc4⟩:=HC.out k T hT
   have HT:Hid (T < 2 ^ 256):=YT.out T (List.mem_of_getElem? hT)
   have hkp:∀j,j < 4→W.cell? ⟨lb,k*4+j,none⟩=some (.int .u64 (wd T j:Int)):=fun j hj=>(World.cell?_of_block (a:=⟨lb,k*4+j,none⟩) (HO.out.block lb hlb (by omega))).trans (hc4 j hj)
   have b0:W.cell? ⟨lb,k*4,none⟩=some (.int .u64 (wd T 0:Int)):=hkp 0 (by decide)
   have b1:W.cell? ⟨lb,k*4+1,none⟩=some (.int .u64 (wd T 1:Int)):=hkp 1 (by decide)
   have b2:W.cell? ⟨lb,k*4+2,none⟩=some (.int .u64 (wd T 2:Int)):=hkp 2 (by decide)
   have b3:W.cell? ⟨lb,k*4+3,none⟩=some (.int .u64 (wd T 3:Int)):=hkp 3 (by decide)
   have a0:=HA.out.c 0 (by decide)
   have a1:=HA.out.c 1 (by decide)
   have a2:=HA.out.c 2 (by decide)
   have a3:=HA.out.c 3 (by decide)
   have hsu:=wR Ls S em k
   rw [hT,Option.getD_some] at hsu
   have HSU:=zH hsu
   have hor:=Jt (Et Ls S em HM.out k (by omega)) (show k < 24 by omega)
   have hST:S &&& T < 2 ^ 256:=Nat.lt_of_le_of_lt Nat.and_le_left HS.out
   clear hkp hc4 hT hsu
   by_cases hz:S &&& T=0
   ·have hq:∀w,(Op.equalIn 10000 124 (.agg #[.int .u64 (wd (S &&& T) 0:Int),.int .u64 (wd (S &&& T) 1:Int),.int .u64 (wd (S &&& T) 2:Int),.int .u64 (wd (S &&& T) 3:Int)]) (.agg #[.int .u64 0,.int .u64 0,.int .u64 0,.int .u64 0])).run Tryz.prog w=.ok true w:=fun w=>by rw [XF hST,decide_eq_true hz]
    have HZ:=zH hz
    clear hz hST
    go_wp2_with (go_at_call 81;refine (oM S T _).mono ?_;rintro e w1 ⟨rfl,ho1⟩;unfold sV sC)
    go_roundg (n1 -(k+1))
    case measure=>omega
    case rel=>exact⟨k+1,_,rfl,rfl,by omega,by rw [HSU.out,if_neg (fun h=>h HZ.out)],by go_num,(HA.out.alloc _).only ho1 (fun h=>h),(HO.out.alloc _).trans (ho1.mono (fun _ h=>h.elim))⟩
   ·have hq:∀w,(Op.equalIn 10000 124 (.agg #[.int .u64 (wd (S &&& T) 0:Int),.int .u64 (wd (S &&& T) 1:Int),.int .u64 (wd (S &&& T) 2:Int),.int .u64 (wd (S &&& T) 3:Int)]) (.agg #[.int .u64 0,.int .u64 0,.int .u64 0,.int .u64 0])).run Tryz.prog w=.ok false w:=fun w=>by rw [XF hST,decide_eq_false hz]
    have HZ:=zH hz
    clear hz hST
    go_wp2_with (go_at_call 81;refine (oM S T _).mono ?_;rintro e w1 ⟨rfl,ho1⟩;unfold sV sC)
    go_roundg (n1 -(k+1))
    case measure=>omega
    case rel=>exact⟨k+1,_,rfl,rfl,by omega,by rw [HSU.out,if_pos HZ.out,←hor,IntKind.wrap_u32],by go_num,(HA.out.alloc _).only ho1 (fun h=>h),(HO.out.alloc _).trans (ho1.mono (fun _ h=>h.elim))⟩
  ·have t2:decide ((k:Int) <(n1:Int))=false:=decide_eq_false (by omega)
   obtain rfl:k=n1:=by omega
   go_wp2_with fail
   go_ret
   exact⟨rfl,HO.out.old (fun _ h=>Or.inl h)⟩
def Q9 (rb:Nat) (S:ByteArray) (x:Rd) (w:World) (F:Rl.R (Nat × List Rl.Tk)) (e:Ending) (w':World):Prop:=
 match F with
 | .error f=>e=.panicked (BV f.1 f.2)∧Only (·=rb) w w'
 | .ok (k,ts)=>e=.returned (.int .i64 (k:Int))∧In w' rb S x ts∧Only (·=rb) w w'
theorem own_drewN {w:World} {base e size n:Nat} {v:Value} {xs:List Value} (h:w.ownsRow base e size v n xs) (k:Nat):(w.drewN k).ownsRow base e size v n xs:=h
theorem fZ (C:List Rl.Str) (rb:Nat) (S:ByteArray) (x:Rd) (ts:List Rl.Tk) (w:World) (h:In w rb S x ts) (hS:S.size≤4096) (hC:w.ownsRow (rb+1) 9 1 x.vC C.length (strs C)) (Nq:C.length≤24):
  Calls Tryz.prog 89 #[.pointer (some ⟨rb,0,none⟩)] w (Q9 rb S x w (Rl.placeOf C ts)):=by
 have hn:=uf rb S x ts w h hS
 have hlt:=h.lt
 obtain⟨i,_,hs,hi⟩:=h
 unfold Rl.placeOf
 cases hnm:Rl.name ts with
 | error f=>
  rw [hnm] at hn
  have HN:=zH hn
  clear hnm hn hs
  simp only
  go_enter Tryz.func89,Tryz.ntmps89
  go_wp2_with (go_at_call 107;refine HN.out.mono ?_;rintro e w1 ⟨rfl,ho1⟩)
  exact⟨rfl,rfl,ho1⟩
 | ok r=>
  obtain⟨t,bK⟩:=r
  obtain⟨_,htl⟩:=oZ hs hnm
  rw [←Lib.size_eq] at htl
  rw [hnm] at hn
  have HN:=zH hn
  have HCo:=zH hC
  simp only
  clear hnm hn hs hC
  obtain⟨z,hz⟩:∃z,z=zT C t.text:=⟨_,rfl⟩
  have Hz:=zH hz
  cases hp:Rl.place C t.text with
  | none=>
   have hz1:z=-1:=by rw [hz];unfold zT;rw [hp]
   have hzn:z < 0:=by omega
   clear hz hz1 hp
   simp only
   go_enter Tryz.func89,Tryz.ntmps89
   go_wp2_with (go_at_call 107;refine HN.out.mono ?_;rintro e w1 ⟨rfl,hi1,ho1⟩;have HI1:=zH hi1;obtain⟨i1,az,_,_⟩:=hi1;have d2:=az.c2;have hl1:=az.lt;clear az;have hix:∀n,Calls Tryz.prog 110 #[x.vC,.string (bs t.text)] ((w1.alloc (.cells #[.string (bs t.text),.int .i64 (t.at':Int)] 108)).drewN n) (fun e w'=>e=.returned (.int .i64 z)∧w'=((w1.alloc (.cells #[.string (bs t.text),.int .i64 (t.at':Int)] 108)).drewN n)):=(fun n=>by rw [Hz.out];exact wN C t.text (rb+1) x.vC _ (own_drewN ((ai HCo.out ho1 (fun g hg=>by omega)).alloc _) n) Nq);have T_:=zH hix;clear hix)
   go_quiet ((go_at_call 110;exact Calls.quiet_of_same (T_.out _)))
   go_wp2_with (go_at_call 53;refine (bR 22 t.at' _).mono ?_;rintro e w3 ⟨rfl,rfl⟩)
   exact⟨rfl,rfl,(ho1.alloc _).drewN _⟩
  | some k=>
   have hz1:z=(k:Int):=by rw [hz];unfold zT;rw [hp]
   have hzn:decide (z < 0)=false:=decide_eq_false (by omega)
   have Hz1:=zH hz1
   clear hz hz1 hp
   simp only
   go_enter Tryz.func89,Tryz.ntmps89
   go_wp2_with (go_at_call 107;refine HN.out.mono ?_;rintro e w1 ⟨rfl,hi1,ho1⟩;have HI1:=zH hi1;obtain⟨i1,az,_,_⟩:=hi1;have d2:=az.c2;have hl1:=az.lt;clear az;have hix:∀n,Calls Tryz.prog 110 #[x.vC,.string (bs t.text)] ((w1.alloc (.cells #[.string (bs t.text),.int .i64 (t.at':Int)] 108)).drewN n) (fun e w'=>e=.returned (.int .i64 z)∧w'=((w1.alloc (.cells #[.string (bs t.text),.int .i64 (t.at':Int)] 108)).drewN n)):=(fun n=>by rw [Hz.out];exact wN C t.text (rb+1) x.vC _ (own_drewN ((ai HCo.out ho1 (fun g hg=>by omega)).alloc _) n) Nq);have T_:=zH hix;clear hix)
   go_quiet ((go_at_call 110;exact Calls.quiet_of_same (T_.out _)))
   go_wp2_with fail
   go_ret
   exact⟨by rw [←Hz1.out];rfl,(HI1.out.alloc _).drewN _,(ho1.alloc _).drewN _⟩
theorem Ju {C:List Rl.Str} {ts ts':List Rl.Tk} {k:Nat} (h:Rl.placeOf C ts=.ok (k,ts')):k < C.length:=by
 unfold Rl.placeOf at h
 split at h
 ·cases h
 ·split at h
  ·cases h
  ·rename_i hp
   cases h
   unfold Rl.place at hp
   split at hp
   ·rename_i hm
    cases hp
    exact List.idxOf_lt_length_iff.2 hm
   ·cases hp
theorem bY.aV {w:World} {rb:Nat} {S:ByteArray} {i:Int} {x:Rd} (h:bY w rb S i x) (v:Int):bY (w.setCell ⟨rb,3,none⟩ (.int .u32 v)) rb S i { x with j:=v}:=aa h _
theorem bY.YU {w:World} {rb:Nat} {S:ByteArray} {i:Int} {x:Rd} (h:bY w rb S i x) (v:Int):bY (w.setCell ⟨rb,4,none⟩ (.int .u32 v)) rb S i { x with a:=v}:=aa h _
theorem Jv (rb:Nat) (S:ByteArray) (x:Rd) (s:Rl.St) (p:Value) (ts:List Rl.Tk) (w:World) (h:In w rb S x ts) (hS:S.size≤4096) (hT:eF w rb x s) (tx:Rl.Str) (ti:Int) (hp:p=.agg #[.string (bs tx),.int .i64 ti]):
  Calls Tryz.prog 66 #[.pointer (some ⟨rb,0,none⟩),p] w (pq rb S x.mb w (Rl.join' ts s)):=by
 subst hp
 have hlt:=h.lt
 have HI:=zH h
 have HS:=zH hT
 have hmb:x.mb≠rb:=by have:=hT.mb;omega
 obtain⟨i,hR,_,_⟩:=h
 have c3:=hR.c3
 have f3:=hR.fz 3
 obtain⟨F,hF⟩:∃F,F=Rl.join' ts s:=⟨_,rfl⟩
 have HF:=zH hF
 rw [←hF]
 clear hR hT hF
 cases hn1:Rl.names s.env ts 0 with
 | error f=>
  have T1:=zH hn1
  have HE:Hid (F=.error f):=(by rw [HF.out];unfold Rl.join';simp only [hn1]:F=.error f)
  clear hn1
  go_enter Tryz.func66,Tryz.ntmps66
  go_wp2_with fail
  have c3':(w.alloc (.cells #[.string (bs tx),.int .i64 ti] 108)).drew.cell? ⟨rb,3,none⟩=some (.int .u32 x.j):=(World.cell?_of_block (a:=⟨rb,3,none⟩) (Below.heap_alloc w _ _ hlt)).trans c3
  refine wp_region_held_drew (S:=fun w'=>w'.cell? ⟨rb,3,none⟩=some (.int .u32 x.j)) (by kernel_rfl) c3' (fun hHeld=>?_)
  refine bQ (i:=0) (v:=Value.pointer (some ⟨rb,0,none⟩)) rfl ?_
  simp only [Act.put,zA,zB,zC]
  refine bQ (i:=1) (v:=Value.pointer (some ⟨rb,0,none⟩)) rfl ?_
  simp only [Act.put,zA,zB,zC]
  refine bQ (i:=2) (v:=Value.pointer (some ⟨rb,2,none⟩)) rfl ?_
  simp only [Act.put,zA,zB,zC]
  refine bQ (i:=3) (v:=Value.pointer (some ⟨rb,3,none⟩)) rfl ?_
  simp only [Act.put,zA,zB,zC]
  refine bQ (i:=4) (v:=Value.int .u32 x.j) rfl ?_
  simp only [Act.put,zA,zB,zC]
  refine bQ (i:=5) (v:=Value.pointer (some ⟨rb,0,none⟩)) rfl ?_
  simp only [Act.put,zA,zB,zC]
  refine wpAnyH_ready (rs:=[6]) (by kernel_rfl) (by simp) ?_
  refine AllReadyH.cons rfl (fun K hK=>?_) AllReadyH.nil
  rw [if_pos (by rfl)]
  go_simp
  have hc:=di s.env rb S x ts _ ((HI.out.alloc (.cells #[.string (bs tx),.int .i64 ti] 108)).drew) hS ((HS.out.mp.alloc _).drewN 1) hmb
  rw [T1.out] at hc
  refine hc.mono ?_
  clear hc
  rintro e w1 ⟨rfl,ho1⟩
  refine⟨rfl,?_⟩
  rw [HE.out]
  exact⟨rfl,(((Only.refl (·=rb) w).alloc _).drew.trans ho1).fr HI.out.cl _⟩
 | ok r=>
  obtain⟨b,bK⟩:=r
  have T1:=zH hn1
  clear hn1
  have Il:Hid (∀(W:World),In W rb S x bK→eF W rb x s→In (W.setCell ⟨rb,3,none⟩ (.int .u32 (Rl.gu x.j b))) rb S { x with j:=Rl.gu x.j b} bK∧eF (W.setCell ⟨rb,3,none⟩ (.int .u32 (Rl.gu x.j b))) rb { x with j:=Rl.gu x.j b} { s with join:=Rl.gu s.join b}):=(fun W hi ht=>by
   have ht':=ht.only ((Only.refl (·=rb) W).setCell (p:=⟨rb,3,none⟩) rfl (.int .u32 (Rl.gu x.j b)))
   obtain⟨i,h1,h2⟩:=hi
   exact⟨⟨i,h1.aV _,h2⟩,⟨ht'.cls,ht'.vo,ht'.iE,ht'.mp,by rw [ht.jn],ht'.af,ht'.pl,ht'.op,ht'.mb,ht'.c24,ht'.Eo,ht'.iJ⟩⟩:∀(W:World),In W rb S x bK→eF W rb x s→In (W.setCell ⟨rb,3,none⟩ (.int .u32 (Rl.gu x.j b))) rb S { x with j:=Rl.gu x.j b} bK∧eF (W.setCell ⟨rb,3,none⟩ (.int .u32 (Rl.gu x.j b))) rb { x with j:=Rl.gu x.j b} { s with join:=Rl.gu s.join b})
  go_enter Tryz.func66,Tryz.ntmps66
  go_wp2_with fail
  go_cut [] from 4 to 14 (fun wr=>∃W,W=wr∧In W rb S { x with j:=Rl.gu x.j b} bK∧eF W rb { x with j:=Rl.gu x.j b} { s with join:=Rl.gu s.join b}∧Only (·=rb) w W)
  case first=>
   go_region_with (first |(go_at_call 88;have hc:=di s.env rb S x ts _ ((HI.out.alloc (.cells #[.string (bs tx),.int .i64 ti] 108)).drew) hS ((HS.out.mp.alloc _).drewN 1) hmb;rw [T1.out] at hc;refine hc.mono ?_;clear hc;rintro e w1 ⟨rfl,hI1,ho1⟩;have HI1:=zH hI1;obtain⟨i1,az,_,_⟩:=hI1;have d3:=az.c3;have g3:=az.fz 3;clear az;have bu:Hid (Only (·=rb) w w1):=(((Only.refl (·=rb) w).alloc _).drew.trans ho1);clear ho1))
   all_goals
    go_wp2_with fail
    go_meet
    case rel=>
     obtain⟨h1,h2⟩:=Il.out w1 HI1.out (HS.out.only bu.out)
     exact⟨_,rfl,h1,h2,bu.out.setCell (p:=⟨rb,3,none⟩) rfl _⟩
  case rest=>
   obtain⟨W,hW,hI2,hS2,hO2⟩:=hcut
   obtain⟨y,hy⟩:∃y:Rd,y={ x with j:=Rl.gu x.j b}:=⟨_,rfl⟩
   obtain⟨s1,hs1⟩:∃s1:Rl.St,s1={ s with join:=Rl.gu s.join b}:=⟨_,rfl⟩
   have HY:Hid (y.mb=x.mb∧y.a=x.a):=(by rw [hy];exact⟨rfl,rfl⟩:y.mb=x.mb∧y.a=x.a)
   have lu:=zH hs1
   have HI2:Hid (In W rb S y bK):=by rw [hy];exact hI2
   have HS2:Hid (eF W rb y s1):=by rw [hy,hs1];exact hS2
   have aK:=zH hO2
   rw [←hW]
   clear hy hs1 hI2 hS2 hO2 hW Il c3 f3
   have Cg:y.mb≠rb:=by rw [HY.out.1];exact hmb
   have UW:Hid (s1.env=s.env):=(by rw [lu.out]:s1.env=s.env)
   cases hw:Rl.want 47 bK with
   | error f=>
    have T2:=zH hw
    have HE:Hid (F=.error f):=(by rw [HF.out];unfold Rl.join';simp only [T1.out,hw]:F=.error f)
    clear hw
    go_wp2_with (go_at_call 55;have hc:=aU 47 rb S y bK W HI2.out hS;rw [T2.out] at hc;refine hc.mono ?_;clear hc;rintro e w2 ⟨rfl,ho2⟩)
    refine⟨rfl,?_⟩
    rw [HE.out]
    exact⟨rfl,(aK.out.trans ho2).fr HI.out.cl _⟩
   | ok dC=>
    have T2:=zH hw
    clear hw
    cases hn2:Rl.names s.env dC 0 with
    | error f=>
     have T3:=zH hn2
     have HE:Hid (F=.error f):=(by rw [HF.out];unfold Rl.join';simp only [T1.out,T2.out,hn2]:F=.error f)
     clear hn2
     go_wp2_with (go_at_call 55;have hc:=aU 47 rb S y bK W HI2.out hS;rw [T2.out] at hc;refine hc.mono ?_;clear hc;rintro e w2 ⟨rfl,dQ,ho2⟩;have HI3:=zH dQ;obtain⟨i3,cz,_,_⟩:=dQ;have d4:=cz.c4;have hl2:=cz.lt;clear cz;have fK:Hid (Only (·=rb) w w2):=aK.out.trans ho2;have M8:Hid (eF w2 rb y s1):=HS2.out.only ho2)
     have d4':w2.drew.cell? ⟨rb,4,none⟩=some (.int .u32 y.a):=d4
     refine wp_region_held_drew (S:=fun w'=>w'.cell? ⟨rb,4,none⟩=some (.int .u32 y.a)) (by kernel_rfl) d4' (fun hHeld=>?_)
     refine bQ (i:=0) (v:=Value.pointer (some ⟨rb,0,none⟩)) rfl ?_
     simp only [Act.put,zA,zB,zC]
     refine bQ (i:=1) (v:=Value.pointer (some ⟨rb,0,none⟩)) rfl ?_
     simp only [Act.put,zA,zB,zC]
     refine bQ (i:=2) (v:=Value.pointer (some ⟨rb,2,none⟩)) rfl ?_
     simp only [Act.put,zA,zB,zC]
     refine bQ (i:=3) (v:=Value.pointer (some ⟨rb,4,none⟩)) rfl ?_
     simp only [Act.put,zA,zB,zC]
     refine bQ (i:=4) (v:=Value.int .u32 y.a) rfl ?_
     simp only [Act.put,zA,zB,zC]
     refine bQ (i:=5) (v:=Value.pointer (some ⟨rb,0,none⟩)) rfl ?_
     simp only [Act.put,zA,zB,zC]
     refine wpAnyH_ready (rs:=[6]) (by kernel_rfl) (by simp) ?_
     refine AllReadyH.cons rfl (fun K hK=>?_) AllReadyH.nil
     rw [if_pos (by rfl)]
     go_simp
     have hc:=di s.env rb S y dC _ HI3.out.drew hS (by rw [←UW.out];exact M8.out.mp.drewN 1) Cg
     rw [T3.out] at hc
     refine hc.mono ?_
     clear hc
     rintro e w1 ⟨rfl,ho1⟩
     refine⟨rfl,?_⟩
     rw [HE.out]
     exact⟨rfl,(fK.out.drew.trans ho1).fr HI.out.cl _⟩
    | ok r=>
     obtain⟨c,qF⟩:=r
     have T3:=zH hn2
     have HE:Hid (F=.ok (qF,{ s with join:=Rl.gu s.join b,after:=Rl.gu s.after c})):=(by rw [HF.out];unfold Rl.join';simp only [T1.out,T2.out,hn2]:F=.ok (qF,{ s with join:=Rl.gu s.join b,after:=Rl.gu s.after c}))
     clear hn2
     go_wp2_with (go_at_call 55;have hc:=aU 47 rb S y bK W HI2.out hS;rw [T2.out] at hc;refine hc.mono ?_;clear hc;rintro e w2 ⟨rfl,dQ,ho2⟩;have HI3:=zH dQ;obtain⟨i3,cz,_,_⟩:=dQ;have d4:=cz.c4;have hl2:=cz.lt;clear cz;have fK:Hid (Only (·=rb) w w2):=aK.out.trans ho2;have M8:Hid (eF w2 rb y s1):=HS2.out.only ho2;have FQ:Hid (Mp w2 y.mb s.env):=(by have:=M8.out.mp;rw [UW.out] at this;exact this))
     go_region_with (first |(go_at_call 88;have hc:=di s.env rb S y dC _ HI3.out.drew hS (FQ.out.drewN 1) Cg;rw [T3.out] at hc;refine hc.mono ?_;clear hc;rintro e w4 ⟨rfl,nH,bI⟩;have HI4:=zH nH;obtain⟨i4,fC,_,_⟩:=nH;have e4:=fC.c4;have g4:=fC.fz 4;clear fC;have eD:Hid (Only (·=rb) w w4):=fK.out.drew.trans bI;have Q7:Hid (eF w4 rb y s1):=M8.out.only ((Only.refl (·=rb) w2).drew.trans bI);clear bI))
     all_goals
      go_wp2_with fail
      go_end0
      rw [HE.out]
      have hst:=Q7.out.only ((Only.refl (·=rb) w4).setCell (p:=⟨rb,4,none⟩) rfl (.int .u32 (Rl.gu y.a c)))
      obtain⟨i5,h5,h6⟩:=HI4.out
      refine⟨rfl,{ y with a:=Rl.gu y.a c},HY.out.1,⟨i5,h5.YU _,h6⟩,?_,(eD.out.setCell (p:=⟨rb,4,none⟩) rfl _).fr HI.out.cl _⟩
      have Jw:=Q7.out.af
      have vK:=lu.out
      exact⟨by rw [vK] at hst;exact hst.cls,by rw [vK] at hst;exact hst.vo,by rw [vK] at hst;exact hst.iE,by rw [vK] at hst;exact hst.mp,by rw [vK] at hst;exact hst.jn,by rw [vK] at Jw;show Rl.gu y.a c=Rl.gu s.after c;rw [Jw],by rw [vK] at hst;exact hst.pl,hst.op,hst.mb,by rw [vK] at hst;exact hst.c24,by rw [vK] at hst;exact hst.Eo,by rw [vK] at hst;exact hst.iJ⟩
end Go.Proofs.YtdlabakleldgaaaGreatDoor
