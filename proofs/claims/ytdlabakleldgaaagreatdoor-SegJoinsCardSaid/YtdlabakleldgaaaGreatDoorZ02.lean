/- Plc Chn Pla End -/
import Derived.Test.YtdlabakleldgaaaGreatDoorZ01
import Derived.Maps.OwnSet
import Derived.Maps.OwnOps
import Derived.DeepKeys4
import Derived.Test.YtdlabakleldgaaaGreatDoorZ00
import Derived.Deep.RegionWith
import Derived.Great.Walk
import Derived.Deep.WholeRow
set_option linter.unusedVariables false
set_option linter.unusedSimpArgs false
set_option maxRecDepth 100000
set_option maxHeartbeats 8000000
namespace Go.Proofs.YtdlabakleldgaaaGreatDoor
open Go.RowKit Go.Maps
def gz (cl n:Nat) (by' nx:Nat→Nat) (fs:Nat) (vL:Value) (em:Nat) (i:Nat):Value:=
 if i=0 then .int .i64 (cl:Int) else if i=1 then .int .i64 (n:Int)
 else if i < 98 then .int .u64 (wd (by' ((i - 2) / 4)) ((i - 2) % 4):Int)
 else if i < 898 then .int .u64 (wd (nx ((i - 98) / 4)) ((i - 98) % 4):Int)
 else if i < 902 then .int .u64 (wd fs (i - 898):Int)
 else if i=902 then vL else .int .u32 (em:Int)
def pC (cl n:Nat) (by' nx:Nat→Nat) (fs:Nat) (vL:Value) (em:Nat):Array Value:=Array.ofFn (n:=904) fun i=>gz cl n by' nx fs vL em i.val
theorem eU (cl n:Nat) (by' nx:Nat→Nat) (fs:Nat) (vL:Value) (em:Nat):(pC cl n by' nx fs vL em).size=904:=by simp [pC]
theorem mU (cl n:Nat) (by' nx:Nat→Nat) (fs:Nat) (vL:Value) (em i:Nat) (h:i < 904):(pC cl n by' nx fs vL em)[i]?=some (gz cl n by' nx fs vL em i):=by
 rw [Array.getElem?_eq_getElem (by rw [eU];exact h)]
 simp [pC]
theorem ll (cl n:Nat) (by' nx:Nat→Nat) (fs:Nat) (vL:Value) (em i:Nat) (h:i < 200):tV (pC cl n by' nx fs vL em) (98+4*i) (nx i):=by
 intro k hk
 rw [mU _ _ _ _ _ _ _ _ (by omega)]
 unfold gz
 rw [if_neg (by omega),if_neg (by omega),if_neg (by omega),if_pos (by omega),show (98+4*i+k - 98) / 4=i by omega,show (98+4*i+k - 98) % 4=k by omega]
theorem IL (cl n:Nat) (by' nx:Nat→Nat) (fs:Nat) (vL:Value) (em i:Nat) (h:i < 24):tV (pC cl n by' nx fs vL em) (2+4*i) (by' i):=by
 intro k hk
 rw [mU _ _ _ _ _ _ _ _ (by omega)]
 unfold gz
 rw [if_neg (by omega),if_neg (by omega),if_pos (by omega),show (2+4*i+k - 2) / 4=i by omega,show (2+4*i+k - 2) % 4=k by omega]
theorem gF (cl n:Nat) (by' nx:Nat→Nat) (fs:Nat) (vL:Value) (em:Nat):tV (pC cl n by' nx fs vL em) 898 fs:=by
 intro k hk
 rw [mU _ _ _ _ _ _ _ _ (by omega)]
 unfold gz
 rw [if_neg (by omega),if_neg (by omega),if_neg (by omega),if_neg (by omega),if_pos (by omega),show 898+k - 898=k by omega]
theorem iW {cl n n':Nat} {b b' nx nx':Nat→Nat} {fs fs':Nat} {vL D9:Value} {em TZ j:Nat} (h0:j=1→n=n') (h1:2≤j→j < 98→b ((j - 2) / 4)=b' ((j - 2) / 4)) (h2:98≤j→j < 898→nx ((j - 98) / 4)=nx' ((j - 98) / 4)) (h3:898≤j→j < 902→fs=fs') (h4:j=902→vL=D9) (h5:902 < j→em=TZ):gz cl n b nx fs vL em j=gz cl n' b' nx' fs' D9 TZ j:=by
 unfold gz
 by_cases e0:j=0
 ·rw [if_pos e0,if_pos e0]
 rw [if_neg e0,if_neg e0]
 by_cases e1:j=1
 ·rw [if_pos e1,if_pos e1,h0 e1]
 rw [if_neg e1,if_neg e1]
 by_cases e2:j < 98
 ·rw [if_pos e2,if_pos e2,h1 (by omega) e2]
 rw [if_neg e2,if_neg e2]
 by_cases e3:j < 898
 ·rw [if_pos e3,if_pos e3,h2 (by omega) e3]
 rw [if_neg e3,if_neg e3]
 by_cases e4:j < 902
 ·rw [if_pos e4,if_pos e4,h3 (by omega) e4]
 rw [if_neg e4,if_neg e4]
 by_cases e5:j=902
 ·rw [if_pos e5,if_pos e5,h4 e5]
 rw [if_neg e5,if_neg e5,h5 (by omega)]
def upd (f:Nat→Nat) (i S:Nat):Nat→Nat:=fun j=>if j=i then S else f j
theorem upd_ne (f:Nat→Nat) {i S j:Nat} (h:j≠i):upd f i S j=f j:=if_neg h
theorem IM (f:Nat→Nat) (i S:Nat):upd f i S i=S:=if_pos rfl
theorem BZ (cl n:Nat) (b nx b' nx':Nat→Nat) (fs fs':Nat) (vL:Value) (em o S:Nat) (ho:o+4≤904) (hs:tV (pC cl n b' nx' fs' vL em) o S) (h:∀j,¬(o≤j∧j < o+4)→gz cl n b nx fs vL em j=gz cl n b' nx' fs' vL em j):mG (pC cl n b nx fs vL em) o S 4=pC cl n b' nx' fs' vL em:=by
 apply Array.ext_getElem?
 intro j
 rw [kv _ _ _ _ _ (by rw [eU];omega)]
 by_cases e:o≤j∧j < o+4
 ·rw [if_pos e]
  have:=hs (j - o) (by omega)
  rw [show o+(j - o)=j by omega] at this
  exact this.symm
 ·rw [if_neg e]
  by_cases hj:j < 904
  ·rw [mU _ _ _ _ _ _ _ _ hj,mU _ _ _ _ _ _ _ _ hj,h j e]
  ·rw [Array.getElem?_eq_none (by rw [eU];omega),Array.getElem?_eq_none (by rw [eU];omega)]
theorem B_ (cl n:Nat) (b nx:Nat→Nat) (fs:Nat) (vL:Value) (em i S:Nat) (h:i < 200):mG (pC cl n b nx fs vL em) (98+4*i) S 4=pC cl n b (upd nx i S) fs vL em:=
 BZ _ _ _ _ _ _ _ _ _ _ _ _ (by omega) (by have:=ll cl n b (upd nx i S) fs vL em i h;rw [IM] at this;exact this)
  (fun j hj=>iW (fun _=>rfl) (fun _ _=>rfl) (fun h1 h2=>by rw [upd_ne];omega) (fun _ _=>rfl) (fun _=>rfl) (fun _=>rfl))
theorem IP (cl n:Nat) (b nx:Nat→Nat) (fs:Nat) (vL:Value) (em i S:Nat) (h:i < 24):mG (pC cl n b nx fs vL em) (2+4*i) S 4=pC cl n (upd b i S) nx fs vL em:=
 BZ _ _ _ _ _ _ _ _ _ _ _ _ (by omega) (by have:=IL cl n (upd b i S) nx fs vL em i h;rw [IM] at this;exact this)
  (fun j hj=>iW (fun _=>rfl) (fun h1 h2=>by rw [upd_ne];omega) (fun _ _=>rfl) (fun _ _=>rfl) (fun _=>rfl) (fun _=>rfl))
theorem rP (cl n:Nat) (b nx:Nat→Nat) (fs:Nat) (vL:Value) (em S:Nat):mG (pC cl n b nx fs vL em) 898 S 4=pC cl n b nx S vL em:=
 BZ _ _ _ _ _ _ _ _ _ _ _ _ (by omega) (gF cl n b nx S vL em)
  (fun j hj=>iW (fun _=>rfl) (fun _ _=>rfl) (fun _ _=>rfl) (fun _ _=>by omega) (fun _=>rfl) (fun _=>rfl))
theorem Ca (cl n:Nat) (b nx:Nat→Nat) (fs:Nat) (vL:Value) (em n':Nat) (D9:Value) (TZ i:Nat) (v:Value) (hi:i < 904) (hv:v=gz cl n' b nx fs D9 TZ i) (h:∀j,j < 904→j≠i→gz cl n b nx fs vL em j=gz cl n' b nx fs D9 TZ j):(pC cl n b nx fs vL em).setIfInBounds i v=pC cl n' b nx fs D9 TZ:=by
 apply Array.ext_getElem?
 intro j
 rw [Array.getElem?_setIfInBounds]
 by_cases hj:j < 904
 ·rw [mU _ _ _ _ _ _ _ _ hj,mU _ _ _ _ _ _ _ _ hj,eU]
  by_cases e:i=j
  ·subst e
   rw [if_pos rfl,if_pos hj,hv]
  ·rw [if_neg e,h j hj (fun e'=>e e'.symm)]
 ·rw [if_neg (by omega),Array.getElem?_eq_none (by rw [eU];omega),Array.getElem?_eq_none (by rw [eU];omega)]
theorem M3 (cl n:Nat) (b nx:Nat→Nat) (fs:Nat) (vL:Value) (em n':Nat):(pC cl n b nx fs vL em).setIfInBounds 1 (.int .i64 (n':Int))=pC cl n' b nx fs vL em:=
 Ca _ _ _ _ _ _ _ _ _ _ 1 _ (by decide) rfl (fun j _ hj=>iW (fun h=>absurd h hj) (fun _ _=>rfl) (fun _ _=>rfl) (fun _ _=>rfl) (fun _=>rfl) (fun _=>rfl))
theorem D_ (cl n:Nat) (b nx:Nat→Nat) (fs:Nat) (vL:Value) (em:Nat) (v:Value):(pC cl n b nx fs vL em).setIfInBounds 902 v=pC cl n b nx fs v em:=
 Ca _ _ _ _ _ _ _ _ _ _ 902 _ (by decide) rfl (fun j _ hj=>iW (fun _=>rfl) (fun _ _=>rfl) (fun _ _=>rfl) (fun _ _=>rfl) (fun h=>absurd h hj) (fun _=>rfl))
theorem M4 (cl n:Nat) (b nx:Nat→Nat) (fs:Nat) (vL:Value) (em e:Nat):(pC cl n b nx fs vL em).setIfInBounds 903 (.int .u32 (e:Int))=pC cl n b nx fs vL e:=
 Ca _ _ _ _ _ _ _ _ _ _ 903 _ (by decide) rfl (fun j hl hj=>iW (fun _=>rfl) (fun _ _=>rfl) (fun _ _=>rfl) (fun _ _=>rfl) (fun _=>rfl) (fun h=>by omega))
def dN (w:World) (g cl n:Nat) (by' nx:Nat→Nat) (fs:Nat) (vL:Value) (em:Nat):Prop:=w.heap[g]?=some (.cells (pC cl n by' nx fs vL em) 129 (0,0))
theorem dN.lt {w:World} {g cl n:Nat} {by' nx:Nat→Nat} {fs:Nat} {vL:Value} {em:Nat} (h:dN w g cl n by' nx fs vL em):g < w.heap.size:=(Array.getElem?_eq_some_iff.1 h).1
theorem dN.only {w w':World} {g cl n:Nat} {by' nx:Nat→Nat} {fs:Nat} {vL:Value} {em:Nat} {P:Nat→Prop} (h:dN w g cl n by' nx fs vL em) (ho:Only P w w') (hn:¬ P g):dN w' g cl n by' nx fs vL em:=(ho.block g h.lt hn).trans h
theorem dN.cell {w:World} {g cl n:Nat} {by' nx:Nat→Nat} {fs:Nat} {vL:Value} {em:Nat} (h:dN w g cl n by' nx fs vL em) (i:Nat) (hi:i < 904):w.cell? ⟨g,i,none⟩=some (gz cl n by' nx fs vL em i):=(ae h).trans (mU _ _ _ _ _ _ _ _ hi)
theorem dN.c0 {w:World} {g cl n:Nat} {by' nx:Nat→Nat} {fs:Nat} {vL:Value} {em:Nat} (h:dN w g cl n by' nx fs vL em):w.cell? ⟨g,0,none⟩=some (.int .i64 (cl:Int)):=h.cell 0 (by decide)
theorem dN.c1 {w:World} {g cl n:Nat} {by' nx:Nat→Nat} {fs:Nat} {vL:Value} {em:Nat} (h:dN w g cl n by' nx fs vL em):w.cell? ⟨g,1,none⟩=some (.int .i64 (n:Int)):=h.cell 1 (by decide)
theorem dN.sG {w:World} {g cl n:Nat} {by' nx:Nat→Nat} {fs:Nat} {vL:Value} {em:Nat} (h:dN w g cl n by' nx fs vL em):w.cell? ⟨g,902,none⟩=some vL:=h.cell 902 (by decide)
theorem dN.UB {w:World} {g cl n:Nat} {by' nx:Nat→Nat} {fs:Nat} {vL:Value} {em:Nat} (h:dN w g cl n by' nx fs vL em):w.cell? ⟨g,903,none⟩=some (.int .u32 (em:Int)):=h.cell 903 (by decide)
theorem dN.fz {w:World} {g cl n:Nat} {by' nx:Nat→Nat} {fs:Nat} {vL:Value} {em:Nat} (h:dN w g cl n by' nx fs vL em) (k:Nat):w.frozen? ⟨g,k,none⟩=false:=ak h k
theorem IQ:laidOutB Tryz.prog=true:=by kernel_rfl
theorem zw:Tryz.prog.types.size=232:=by kernel_rfl
theorem tY:Keyed Tryz.prog 124:=Keyed.of_law (deep_law_laid IQ (m:=2) (by decide) (by rw [zw];decide) (by kernel_rfl) (by kernel_rfl))
theorem wf_u64 {a:Nat} (h1:a < 18446744073709551616):(Lit.int .u64 (a:Int)).wf=true:=by
 have e1:IntKind.min .u64=0:=by decide
 have e2:IntKind.max .u64=18446744073709551615:=by decide
 have h0:(0:Int)≤(a:Int):=by omega
 have h2:(a:Int)≤18446744073709551615:=by omega
 simp only [Lit.wf,e1,e2,h0,h2,decide_true,Bool.and_self]
theorem UC (S:Nat):∃l,keyOf Tryz.prog 124 (sV S)=some l:=by
 have hk:Tryz.prog.keyType 124=true:=by kernel_rfl
 have hf:(sV S).formed Tryz.prog 124=true:=by
  have:Tryz.prog.cellsOf 124=4:=by kernel_rfl
  simp [sV,sC,Value.formed,Tryz.underlying124,this]
 have ht:∃d,Tryz.prog.types.size+1=d+2:=⟨231,by rw [zw]⟩
 obtain⟨d,hd⟩:=ht
 have hl:∃ls,Tryz.prog.keyLits (d+2) 124 (sV S).cells.toList=some ls:=by
  unfold Program.keyLits
  simp only [Tryz.underlying124]
  have c73:Tryz.prog.cellsOf 124=4:=by kernel_rfl
  have c71:Tryz.prog.cellsOf 122=1:=by kernel_rfl
  have hlen:((sV S).cells.toList).length=Tryz.prog.cellsOf 124:=by rw [c73];rfl
  rw [if_pos hlen,c71]
  have hq:∀k,k < 4→Tryz.prog.keyLits (d+1) 122 [.int .u64 (wd S k:Int)]=some [.int .u64 (wd S k:Int)]:=by
   intro k hk
   unfold Program.keyLits
   simp only [Tryz.underlying122]
   simp [wf_u64 (mP S k)]
  have e:List.range 4=[0,1,2,3]:=rfl
  rw [e]
  have hc:(sV S).cells.toList=[.int .u64 (wd S 0:Int),.int .u64 (wd S 1:Int),.int .u64 (wd S 2:Int),.int .u64 (wd S 3:Int)]:=rfl
  rw [hc]
  simp [hq 0 (by decide),hq 1 (by decide),hq 2 (by decide),hq 3 (by decide)]
 obtain⟨ls,hls⟩:=hl
 unfold keyOf
 simp only [Tryz.underlying124,hk,hf,Bool.and_self,if_true]
 rw [hd,hls]
 exact⟨_,rfl⟩
def kc (P:Program) (S:Nat):Lit:=(keyOf P 124 (sV S)).getD .nil
theorem iI (S:Nat):keyOf Tryz.prog 124 (sV S)=some (kc Tryz.prog S):=by
 obtain⟨l,hl⟩:=UC S
 unfold kc
 rw [hl]
 rfl
theorem QE {A B:Nat} (ha:A < 2 ^ 256) (hb:B < 2 ^ 256) (h:sV A=sV B):A=B:=by
 unfold sV sC at h
 simp only [Value.agg.injEq,Array.mk.injEq,List.cons.injEq,Value.int.injEq,true_and,and_true] at h
 refine Qz ha hb fun j hj=>?_
 rcases (show j=0∨j=1∨j=2∨j=3 by omega) with rfl | rfl | rfl | rfl <;> omega
theorem IU {A B:Nat} (ha:A < 2 ^ 256) (hb:B < 2 ^ 256) (h:kc Tryz.prog A=kc Tryz.prog B):A=B:=by
 have e:=tY.inj (iI A) (by rw [h];exact iI B)
 exact QE ha hb e
theorem YC {A B:Nat} (ha:A < 2 ^ 256) (hb:B < 2 ^ 256) (w:World):(Op.equalIn 10000 124 (sV A) (sV B)).run Tryz.prog w=.ok (decide (A=B)) w:=by
 obtain⟨r,hr,hiff⟩:=run_equal_deep w (m:=2) (k:=124) (by decide) (by kernel_rfl) (by kernel_rfl) (iI A) (iI B)
 have:r=decide (A=B):=by
  by_cases h:A=B
  ·subst h;simp [hiff.2 rfl]
  ·rw [decide_eq_false h]
   cases r with
   | false=>rfl
   | true=>exact absurd (IU ha hb (hiff.1 rfl)) h
 rw [←this]
 exact hr
def qA (nx:Nat→Nat) (A N k:Nat):Nat→Nat:=fun i=>if i < k∧A.testBit i=true then nx i ||| N else nx i
theorem IV (nx:Nat→Nat) (A N:Nat):qA nx A N 0=nx:=funext fun i=>if_neg (by omega)
theorem IW (nx:Nat→Nat) (A k:Nat):qA nx A 0 k=nx:=funext fun i=>by unfold qA;split <;> simp
theorem QF (nx:Nat→Nat) (A N k:Nat) (h:A.testBit k=true):qA nx A N (k+1)=upd (qA nx A N k) k (qA nx A N k k ||| N):=funext fun i=>by
 unfold upd qA
 by_cases e:i=k
 ·subst e
  rw [if_pos ⟨by omega,h⟩,if_pos rfl,if_neg (by omega)]
 ·rw [if_neg e]
  by_cases h1:i < k∧A.testBit i=true
  ·rw [if_pos h1,if_pos ⟨by omega,h1.2⟩]
  ·rw [if_neg h1,if_neg (fun h2=>h1 ⟨by omega,h2.2⟩)]
theorem M5 (nx:Nat→Nat) (A N k:Nat) (h:A.testBit k=false):qA nx A N (k+1)=qA nx A N k:=funext fun i=>by
 unfold qA
 by_cases e:i=k
 ·subst e
  rw [if_neg (by rw [h];simp),if_neg (by omega)]
 ·by_cases h1:i < k∧A.testBit i=true
  ·rw [if_pos h1,if_pos ⟨by omega,h1.2⟩]
  ·rw [if_neg h1,if_neg (fun h2=>h1 ⟨by omega,h2.2⟩)]
def Sb (w:World) (g S:Nat):Prop:=w.heap[g]?=some (.cells (sC S) 124 (0,0))
theorem Sb.c {w:World} {g S:Nat} (h:Sb w g S) (k:Nat) (hk:k < 4):w.cell? ⟨g,k,none⟩=some (.int .u64 (wd S k:Int)):=(ae h).trans (zt S k hk)
theorem Sb.lt {w:World} {g S:Nat} (h:Sb w g S):g < w.heap.size:=(Array.getElem?_eq_some_iff.1 h).1
theorem Sb.only {w w':World} {g S:Nat} {P:Nat→Prop} (h:Sb w g S) (ho:Only P w w') (hn:¬ P g):Sb w' g S:=(ho.block g h.lt hn).trans h
theorem Sb.new (w:World) (S:Nat):Sb (w.alloc (.cells (sC S) 124)) w.heap.size S:=heap_alloc_new _ _
theorem Sb.alloc {w:World} {g S:Nat} (h:Sb w g S) (o:Obj):Sb (w.alloc o) g S:=(Below.heap_alloc _ _ _ h.lt).trans h
theorem XF {N:Nat} (hN:N < 2 ^ 256) (w:World):(Op.equalIn 10000 124 (.agg #[.int .u64 (wd N 0:Int),.int .u64 (wd N 1:Int),.int .u64 (wd N 2:Int),.int .u64 (wd N 3:Int)]) (.agg #[.int .u64 0,.int .u64 0,.int .u64 0,.int .u64 0])).run Tryz.prog w=.ok (decide (N=0)) w:=by
 have h:=YC hN (show 0 < 2 ^ 256 by decide) w
 unfold sV sC at h
 rw [bL,bL,bL,bL] at h
 exact h
theorem iX (g cl n:Nat) (b nx:Nat→Nat) (fs:Nat) (vL:Value) (em A N:Nat) (w:World) (hP:dN w g cl n b nx fs vL em) (hn:n≤200) (hN:N < 2 ^ 256):
  Calls Tryz.prog 124 #[.pointer (some ⟨g,0,none⟩),sV A,sV N] w fun e w'=>e=.returned (.tuple #[])∧dN w' g cl n b (qA nx A N n) fs vL em∧Only (·=g) w w':=by
 have hsv:∀S,sV S=.agg #[.int .u64 (wd S 0:Int),.int .u64 (wd S 1:Int),.int .u64 (wd S 2:Int),.int .u64 (wd S 3:Int)]:=fun _=>rfl
 have hlt:=hP.lt
 have HP:=zH hP
 have hc1:=hP.c1
 clear hP
 rw [hsv A,hsv N]
 clear hsv
 have iA:Hid (Only (·=g) w ((w.alloc (.cells (sC A) 124)).alloc (.cells (sC N) 124))):=((Only.refl _ _).alloc _).alloc _
 by_cases hz:N=0
 ·have hq:∀w,(Op.equalIn 10000 124 (.agg #[.int .u64 (wd N 0:Int),.int .u64 (wd N 1:Int),.int .u64 (wd N 2:Int),.int .u64 (wd N 3:Int)]) (.agg #[.int .u64 0,.int .u64 0,.int .u64 0,.int .u64 0])).run Tryz.prog w=.ok true w:=fun w=>by rw [XF hN,decide_eq_true hz]
  have HZ:=zH hz
  clear hz
  go_enter Tryz.func124,Tryz.ntmps124
  go_wp2_with fail
  refine bodyPost_ret (results_none rfl _ _ _) rfl ?_
  refine⟨rfl,?_,iA.out⟩
  rw [HZ.out,IW]
  exact HP.out.only (P:=fun _=>False) (((Only.refl _ _).alloc _).alloc _) (fun h=>h)
 ·have hq:∀w,(Op.equalIn 10000 124 (.agg #[.int .u64 (wd N 0:Int),.int .u64 (wd N 1:Int),.int .u64 (wd N 2:Int),.int .u64 (wd N 3:Int)]) (.agg #[.int .u64 0,.int .u64 0,.int .u64 0,.int .u64 0])).run Tryz.prog w=.ok false w:=fun w=>by rw [XF hN,decide_eq_false hz]
  clear hz
  have S0:Hid (Sb ((w.alloc (.cells (sC A) 124)).alloc (.cells (sC N) 124)) w.heap.size A):=(Sb.new w A).alloc _
  have S1:Hid (Sb ((w.alloc (.cells (sC A) 124)).alloc (.cells (sC N) 124)) (w.heap.size+1) N):=heap_alloc2_new _ _ _
  have P0:Hid (dN ((w.alloc (.cells (sC A) 124)).alloc (.cells (sC N) 124)) g cl n b nx fs vL em):=HP.out.only (P:=fun _=>False) (((Only.refl _ _).alloc _).alloc _) (fun h=>h)
  go_enter Tryz.func124,Tryz.ntmps124
  go_wp2_with fail
  go_loopg [14] n (fun gh v wr=>∃(k:Nat) (W:World),W=wr∧gh=n - k∧k≤n∧v=.int .i64 (k:Int)∧dN W g cl n b (qA nx A N k) fs vL em∧Sb W w.heap.size A∧Sb W (w.heap.size+1) N∧Only (·=g) w W)
  case atStart=>exact⟨0,_,rfl,rfl,Nat.zero_le _,rfl,by rw [IV];exact P0.out,S0.out,S1.out,iA.out⟩
  case round=>
   obtain⟨k,W,hW,rfl,hk,rfl,UD,hA,hB,hO⟩:=hrel
   subst hW
   have QG:=zH UD
   have HA:=zH hA
   have HB:=zH hB
   have HO:=zH hO
   clear UD hA hB hO
   by_cases mH:k < n
   ·have t1:(k:Int) <(n:Int):=by omega
    have a0:=HA.out.c 0 (by decide)
    have a1:=HA.out.c 1 (by decide)
    have a2:=HA.out.c 2 (by decide)
    have a3:=HA.out.c 3 (by decide)
    by_cases hbit:A.testBit k=true
    ·go_wp2_with (go_at_call 104;refine (sU A k (by omega) _).mono ?_;rintro e w1 ⟨rfl,ho1⟩;have bu:=zH ho1;have b0:=(HB.out.only ho1 (fun h=>h)).c 0 (by decide);have b1:=(HB.out.only ho1 (fun h=>h)).c 1 (by decide);have b2:=(HB.out.only ho1 (fun h=>h)).c 2 (by decide);have b3:=(HB.out.only ho1 (fun h=>h)).c 3 (by decide);clear ho1)
     go_region_with (go_at_call 79;refine (dz g (98+k*4) (qA nx A N k k) N _ 129 _ (QG.out.only (bu.out.drew) (fun h=>h)) (by rw [Nat.mul_comm];exact ll _ _ _ _ _ _ _ k (by omega))).mono ?_;rintro e w2 ⟨rfl,hp2,ho2⟩)
     all_goals
      go_wp2_with fail
      go_roundg (n -(k+1))
      case measure=>omega
      case rel=>exact⟨k+1,_,rfl,rfl,by omega,by go_num,by rw [Nat.mul_comm,B_ _ _ _ _ _ _ _ k _ (by omega),←QF _ _ _ _ hbit] at hp2;exact hp2,(HA.out.only bu.out.drew (fun h=>h)).only ho2 (by omega),(HB.out.only bu.out.drew (fun h=>h)).only ho2 (by omega),(HO.out.trans (bu.out.drew.mono (fun _ h=>h.elim))).trans ho2⟩
    ·have hbf:A.testBit k=false:=by simpa using hbit
     go_wp2_with (go_at_call 104;refine (sU A k (by omega) _).mono ?_;rintro e w1 ⟨rfl,ho1⟩)
     go_roundg (n -(k+1))
     case measure=>omega
     case rel=>exact⟨k+1,_,rfl,rfl,by omega,by go_num,by rw [M5 _ _ _ _ hbf];exact QG.out.only ho1 (fun h=>h),HA.out.only ho1 (fun h=>h),HB.out.only ho1 (fun h=>h),HO.out.trans (ho1.mono (fun _ h=>h.elim))⟩
   ·have t2:decide ((k:Int) <(n:Int))=false:=decide_eq_false (by omega)
    obtain rfl:k=n:=by omega
    go_wp2_with fail
    go_end0
    exact⟨rfl,QG.out,HO.out⟩
def dO (x:Au.Nd):Array Value:=#[.bool x.none,.int .u64 (wd x.first 0:Int),.int .u64 (wd x.first 1:Int),.int .u64 (wd x.first 2:Int),.int .u64 (wd x.first 3:Int),.int .u64 (wd x.last 0:Int),.int .u64 (wd x.last 1:Int),.int .u64 (wd x.last 2:Int),.int .u64 (wd x.last 3:Int)]
def qJ (x:Au.Nd):Value:=.agg (dO x)
def iR (op:Int) (a:Option Addr) (n c:Nat) (x:Au.Nd):Array Value:=#[.int .u8 op,.slice a n c,.bool x.none,.int .u64 (wd x.first 0:Int),.int .u64 (wd x.first 1:Int),.int .u64 (wd x.first 2:Int),.int .u64 (wd x.first 3:Int),.int .u64 (wd x.last 0:Int),.int .u64 (wd x.last 1:Int),.int .u64 (wd x.last 2:Int),.int .u64 (wd x.last 3:Int)]
def qK (op:Int) (a:Option Addr) (n c:Nat) (x:Au.Nd):Value:=.agg (iR op a n c x)
theorem oN:∀(l:List Value),(∀v∈l,v.oneCell'=true)→l.toArray.all (·.oneCell')=true:=by
 intro l h
 rw [Array.all_eq_true_iff_forall_mem]
 intro v hv
 exact h v (by simpa using hv)
theorem tu (x:Au.Nd):(dO x).all (·.oneCell')=true:=oN _ (by intro v hv;simp at hv;rcases hv with rfl | rfl | rfl | rfl | rfl | rfl | rfl | rfl | rfl <;> rfl)
theorem jk (op:Int) (a:Option Addr) (n c:Nat) (x:Au.Nd):(iR op a n c x).all (·.oneCell')=true:=oN _ (by intro v hv;simp at hv;rcases hv with rfl | rfl | rfl | rfl | rfl | rfl | rfl | rfl | rfl | rfl | rfl <;> rfl)
theorem xO (S:Nat):(sC S).all (·.oneCell')=true:=oN _ (by intro v hv;simp at hv;rcases hv with rfl | rfl | rfl | rfl <;> rfl)
theorem oO:(Tryz.prog.info? 143).map (·.size)=some 9:=by kernel_rfl
theorem iB:(Tryz.prog.info? 171).map (·.size)=some 11:=by kernel_rfl
theorem dP (w:World) (g:Nat) (t:TypeId) (c c':Array Value) (fr:Nat × Nat) (h:w.heap[g]?=some (.cells c t fr)):(w.setRow g c').heap[g]?=some (.cells c' t fr):=by
 obtain⟨hb,e⟩:=Array.getElem?_eq_some_iff.1 h
 simp [World.setRow,hb,Array.getElem_modify,e]
theorem setRow_other (w:World) {g h:Nat} (c:Array Value) (hn:h≠g):(w.setRow g c).heap[h]?=w.heap[h]?:=by
 simp only [World.setRow,Array.getElem?_modify]
 rw [if_neg (fun e=>hn e.symm)]
theorem Only.setRow {S:Nat→Prop} {a w:World} (h:Only S a w) {g:Nat} (hg:S g) (c:Array Value):Only S a (w.setRow g c):=
 h.trans ⟨rfl,rfl,rfl,by simp [World.setRow],fun k hk hS=>setRow_other w c (fun e=>hS (e ▸ hg))⟩
def Ea (b:Nat→Nat) (s:Int) (n k:Nat):Nat→Nat:=fun c=>if c < k∧s / 2 ^ c % 2=1 then b c ||| 2 ^ n else b c
theorem IX (b:Nat→Nat) (s:Int) (n:Nat):Ea b s n 0=b:=funext fun i=>if_neg (by omega)
theorem QH (b:Nat→Nat) (s:Int) (n k:Nat) (h:s / 2 ^ k % 2=1):Ea b s n (k+1)=upd (Ea b s n k) k (Ea b s n k k ||| 2 ^ n):=funext fun i=>by
 unfold upd Ea
 by_cases e:i=k
 ·subst e
  rw [if_pos ⟨by omega,h⟩,if_pos rfl,if_neg (by omega)]
 ·rw [if_neg e]
  by_cases h1:i < k∧s / 2 ^ i % 2=1
  ·rw [if_pos h1,if_pos ⟨by omega,h1.2⟩]
  ·rw [if_neg h1,if_neg (fun h2=>h1 ⟨by omega,h2.2⟩)]
theorem M6 (b:Nat→Nat) (s:Int) (n k:Nat) (h:¬ s / 2 ^ k % 2=1):Ea b s n (k+1)=Ea b s n k:=funext fun i=>by
 unfold Ea
 by_cases e:i=k
 ·subst e
  rw [if_neg (fun h2=>h h2.2),if_neg (by omega)]
 ·by_cases h1:i < k∧s / 2 ^ i % 2=1
  ·rw [if_pos h1,if_pos ⟨by omega,h1.2⟩]
  ·rw [if_neg h1,if_neg (fun h2=>h1 ⟨by omega,h2.2⟩)]
theorem IY {s:Int} (h0:0≤s) (h1:s < 4294967296) (k:Nat):(bits .and .u32 (s / 2 ^ k) 1==1)=decide (s / 2 ^ k % 2=1):=by
 obtain⟨m,rfl⟩:∃m:Nat,s=(m:Int):=⟨s.toNat,by omega⟩
 have e:((m:Int) / 2 ^ k)=((m / 2 ^ k:Nat):Int):=by push_cast;rfl
 have hl:m / 2 ^ k < 4294967296:=Nat.lt_of_le_of_lt (Nat.div_le_self _ _) (by omega)
 rw [e,show (1:Int)=((1:Nat):Int) from rfl,u32_and_nat _ _ hl (by decide),nat_mask1]
 by_cases h:(m / 2 ^ k) % 2=1
 ·rw [h,decide_eq_true (by omega)];rfl
 ·have:m / 2 ^ k % 2=0:=by omega
  rw [this,decide_eq_false (by omega)];rfl
theorem M7 (g cl n:Nat) (b nx:Nat→Nat) (fs:Nat) (vL:Value) (em:Nat) (s:Int) (w:World) (hP:dN w g cl n b nx fs vL em) (hn:n < 200) (hcl:cl≤24) (hs0:0≤s) (hs1:s < 4294967296):
  Calls Tryz.prog 122 #[.pointer (some ⟨g,0,none⟩),.int .u32 s] w fun e w'=>e=.returned (qJ ⟨false,2 ^ n,2 ^ n⟩)∧dN w' g cl (n+1) (Ea b s n cl) nx fs vL em∧Only (·=g) w w':=by
 have hlt:=hP.lt
 have hc0:=hP.c0
 have hc1:=hP.c1
 have HP:=zH hP
 clear hP
 have HQ0:Hid ((((w.alloc (.cells #[.bool false,.int .u64 0,.int .u64 0,.int .u64 0,.int .u64 0,.int .u64 0,.int .u64 0,.int .u64 0,.int .u64 0] 143)).alloc (.cells #[.int .u64 0,.int .u64 0,.int .u64 0,.int .u64 0] 124))).heap[w.heap.size]?=some (.cells #[.bool false,.int .u64 0,.int .u64 0,.int .u64 0,.int .u64 0,.int .u64 0,.int .u64 0,.int .u64 0,.int .u64 0] 143 (0,0))):=(Below.heap_alloc _ _ _ (by simp)).trans (heap_alloc_new _ _)
 have T9:Hid ((((w.alloc (.cells #[.bool false,.int .u64 0,.int .u64 0,.int .u64 0,.int .u64 0,.int .u64 0,.int .u64 0,.int .u64 0,.int .u64 0] 143)).alloc (.cells #[.int .u64 0,.int .u64 0,.int .u64 0,.int .u64 0] 124))).heap[w.heap.size+1]?=some (.cells (sC 0) 124 (0,0))):=heap_alloc2_new _ _ _
 have iA:Hid (Only (fun _=>False) w ((w.alloc (.cells #[.bool false,.int .u64 0,.int .u64 0,.int .u64 0,.int .u64 0,.int .u64 0,.int .u64 0,.int .u64 0,.int .u64 0] 143)).alloc (.cells #[.int .u64 0,.int .u64 0,.int .u64 0,.int .u64 0] 124))):=((Only.refl _ _).alloc _).alloc _
 go_enter Tryz.func122,Tryz.ntmps122
 go_wp2_with (go_at_call 133;refine (M0 (w.heap.size+1) n (by omega) _ T9.out).mono ?_;rintro e w1 ⟨rfl,hs1,ho1⟩;have lu:=zH hs1;have bu:Hid (Only (fun g=>w.heap.size≤g) w w1):=(iA.out.mono (fun _ h=>h.elim)).trans (ho1.mono (fun _ h=>by omega));have fJ:Hid (dN w1 g cl n b nx fs vL em):=HP.out.only bu.out (by omega);have XG:Hid (w1.heap[w.heap.size]?=some (.cells #[.bool false,.int .u64 0,.int .u64 0,.int .u64 0,.int .u64 0,.int .u64 0,.int .u64 0,.int .u64 0,.int .u64 0] 143 (0,0))):=(ho1.block _ (Array.getElem?_eq_some_iff.1 HQ0.out).1 (by omega)).trans HQ0.out;have k0:=fJ.out.c0;have k1:=fJ.out.c1;have kf:=fJ.out.fz 1;clear hs1 ho1)
 have iC:Hid (dN (w1.setCell ⟨g,1,none⟩ (.int .i64 ((n:Int)+1))) g cl (n+1) b nx fs vL em):=by
  have h:=aa (k:=1) fJ.out (.int .i64 ((n+1:Nat):Int))
  rw [M3] at h
  exact h
 have aK:Hid (Only (fun g=>w.heap.size≤g) w1 w1):=Only.refl _ _
 have fK:Hid (Only (fun h=>h=g∨w.heap.size≤h) w (w1.setCell ⟨g,1,none⟩ (.int .i64 ((n:Int)+1)))):=Only.setCell (S:=fun h=>h=g∨w.heap.size≤h) (bu.out.mono (fun _ h=>Or.inr h)) (p:=⟨g,1,none⟩) (Or.inl rfl) _
 have M8:Hid (Sb (w1.setCell ⟨g,1,none⟩ (.int .i64 ((n:Int)+1))) (w.heap.size+1) (2 ^ n)):=(Below.heap_setCell _ _ _ _ (by show w.heap.size+1≠g;omega)).trans lu.out
 have Pq:Hid ((w1.setCell ⟨g,1,none⟩ (.int .i64 ((n:Int)+1))).heap[w.heap.size]?=some (.cells #[.bool false,.int .u64 0,.int .u64 0,.int .u64 0,.int .u64 0,.int .u64 0,.int .u64 0,.int .u64 0,.int .u64 0] 143 (0,0))):=(Below.heap_setCell _ _ _ _ (by show w.heap.size≠g;omega)).trans XG.out
 go_loopg [23] cl (fun gh v wr=>∃(k:Nat) (W:World),W=wr∧gh=cl - k∧k≤cl∧v=.int .i64 (k:Int)∧dN W g cl (n+1) (Ea b s n k) nx fs vL em∧Sb W (w.heap.size+1) (2 ^ n)∧W.heap[w.heap.size]?=some (.cells #[.bool false,.int .u64 0,.int .u64 0,.int .u64 0,.int .u64 0,.int .u64 0,.int .u64 0,.int .u64 0,.int .u64 0] 143 (0,0))∧Only (fun h=>h=g∨w.heap.size≤h) w W)
 case atStart=>exact⟨0,_,rfl,rfl,Nat.zero_le _,rfl,by rw [IX];exact iC.out,M8.out,Pq.out,fK.out⟩
 case round=>
  obtain⟨k,W,hW,rfl,hk,rfl,UD,hS,hQ,hO⟩:=hrel
  subst hW
  have QG:=zH UD
  have HS:=zH hS
  have HQ:=zH hQ
  have HO:=zH hO
  have b0:=hS.c 0 (by decide)
  have b1:=hS.c 1 (by decide)
  have b2:=hS.c 2 (by decide)
  have b3:=hS.c 3 (by decide)
  clear UD hS hQ hO k0 k1 kf hc0 hc1
  by_cases mH:k < cl
  ·have t1:(k:Int) <(cl:Int):=by omega
   by_cases hbit:s / 2 ^ k % 2=1
   ·have hq:(bits .and .u32 (s / 2 ^ k) 1==1)=true:=by rw [IY hs0 hs1,decide_eq_true hbit]
    have HB:=zH hbit
    clear hbit
    go_wp2_with fail
    go_region_with (go_at_call 79;refine (dz g (2+k*4) (Ea b s n k k) (2 ^ n) _ 129 _ (QG.out.only ((Only.refl (fun _=>False) W).drew) (fun h=>h)) (by rw [Nat.mul_comm];exact IL _ _ _ _ _ _ _ k (by omega))).mono ?_;rintro e w2 ⟨rfl,hp2,ho2⟩)
    all_goals
     go_wp2_with fail
     go_roundg (cl -(k+1))
     case measure=>omega
     case rel=>exact⟨k+1,_,rfl,rfl,by omega,by go_num,by rw [Nat.mul_comm,IP _ _ _ _ _ _ _ k _ (by omega),←QH _ _ _ _ HB.out] at hp2;exact hp2,(HS.out.only ((Only.refl (fun _=>False) W).drew) (fun h=>h)).only ho2 (by omega),((ho2.block _ (Array.getElem?_eq_some_iff.1 HQ.out).1 (by omega)).trans HQ.out),HO.out.drew.trans (ho2.mono (fun _ h=>Or.inl h))⟩
   ·have hq:(bits .and .u32 (s / 2 ^ k) 1==1)=false:=by rw [IY hs0 hs1,decide_eq_false hbit]
    have HB:=zH hbit
    clear hbit
    go_wp2_with fail
    go_roundg (cl -(k+1))
    case measure=>omega
    case rel=>exact⟨k+1,_,rfl,rfl,by omega,by go_num,by rw [M6 _ _ _ _ HB.out];exact QG.out,HS.out,HQ.out,HO.out⟩
  ·have t2:decide ((k:Int) <(cl:Int))=false:=decide_eq_false (by omega)
   obtain rfl:k=cl:=by omega
   go_wp2_with (refine wpList_store_rowTo rfl 143 _ _ rfl rfl w.heap.size (dO ⟨false,2 ^ n,2 ^ n⟩) rfl rfl 143 _ HQ.out oO rfl (tu _) ?_)
   refine bodyPost_ret (v:=qJ ⟨false,2 ^ n,2 ^ n⟩) (results_cell_row rfl _ _ w.heap.size 143 (dO ⟨false,2 ^ n,2 ^ n⟩) (0,0) _ rfl (dP _ _ _ _ _ _ HQ.out) Tryz.underlying143 rfl oO) rfl ⟨rfl,?_,?_⟩
   ·exact (setRow_other _ _ (by omega)).trans QG.out
   ·exact (HO.out.setRow (Or.inr (Nat.le_refl _)) _).old (fun _ h=>h.symm)
theorem jl (o s:Int) (a:Option Addr) (n c:Nat) (w:World) (hnc:n≤c) (hn:n≤maxLen) (ha:0 < n→∃b off,a=some ⟨b,off,none⟩):
  Calls Tryz.prog 123 #[.agg #[.int .u8 o,.int .u32 s,.slice a n c]] w fun e w'=>e=.returned (.slice a (min 1 n) c)∧Only (fun _=>False) w w':=by
 unfold maxLen at hn
 by_cases h0:n=0
 ·subst h0
  go_enter Tryz.func123,Tryz.ntmps123
  go_wp2_with fail
  go_ret
  exact⟨rfl,(Only.refl _ _).alloc _⟩
 ·obtain⟨b,off,rfl⟩:=ha (by omega)
  have e1:min 1 n=1:=by omega
  have e2:(min 1 (n:Int))=1:=by omega
  have e3:(1:Int)≤(c:Int):=by omega
  rw [e1]
  go_enter Tryz.func123,Tryz.ntmps123
  go_wp2_with fail
  go_ret
  exact⟨rfl,(Only.refl _ _).alloc _⟩
theorem dW {w:World} {g:Nat} {op:Int} {a:Option Addr} {m c:Nat} {x:Au.Nd} {t:TypeId} (h:w.heap[g]?=some (.cells (iR op a m c x) t (0,0))) (k:Nat):w.cell? ⟨g,k,none⟩=(iR op a m c x)[k]?:=ae h
def xP:Array Value:=#[.bool false,.int .u64 0,.int .u64 0,.int .u64 0,.int .u64 0,.int .u64 0,.int .u64 0,.int .u64 0,.int .u64 0]
theorem IZ (g cl n:Nat) (b nx:Nat→Nat) (fs:Nat) (vL:Value) (em:Nat) (op:Int) (a:Option Addr) (m c:Nat) (x:Au.Nd) (w:World) (hP:dN w g cl n b nx fs vL em) (hn:n≤200) (hx:x.first < 2 ^ 256) (hop:op=4∨op=5):
  Calls Tryz.prog 102 #[.pointer (some ⟨g,0,none⟩),qK op a m c x] w fun e w'=>e=.returned (qJ x)∧dN w' g cl n b (qA nx x.last x.first n) fs vL em∧Only (·=g) w w':=by
 obtain⟨xe,xf,xl⟩:=x
 have hlt:=hP.lt
 have HP:=zH hP
 clear hP
 have HX:=zH hx
 clear hx
 have B0:Hid (((w.alloc (.cells (iR op a m c ⟨xe,xf,xl⟩) 171)).alloc (.cells xP 143)).heap[w.heap.size]?=some (.cells (iR op a m c ⟨xe,xf,xl⟩) 171 (0,0))):=(Below.heap_alloc _ _ _ (by simp)).trans (heap_alloc_new _ _)
 have B1:Hid (((w.alloc (.cells (iR op a m c ⟨xe,xf,xl⟩) 171)).alloc (.cells xP 143)).heap[w.heap.size+1]?=some (.cells xP 143 (0,0))):=heap_alloc2_new _ _ _
 have O0:Hid (Only (fun _=>False) w ((w.alloc (.cells (iR op a m c ⟨xe,xf,xl⟩) 171)).alloc (.cells xP 143))):=((Only.refl _ _).alloc _).alloc _
 unfold qK iR
 rcases hop with rfl | rfl
 all_goals
  go_enter Tryz.func102,Tryz.ntmps102
  go_wp2_with (first |(go_at_call 124;refine (iX g cl n b nx fs vL em xl xf _ (HP.out.only O0.out (fun h=>h)) hn HX.out).mono ?_;rintro e w1 ⟨rfl,hp1,ho1⟩;have fJ:=zH hp1;have bu:Hid (Only (·=g) w w1):=(O0.out.mono (fun _ h=>h.elim)).trans ho1;have r0:=(ho1.block _ (Array.getElem?_eq_some_iff.1 B0.out).1 (by omega)).trans B0.out;have r1:=(ho1.block _ (Array.getElem?_eq_some_iff.1 B1.out).1 (by omega)).trans B1.out;have R1:=zH r1;have d2:=dW r0 2;have d3:=dW r0 3;have d4:=dW r0 4;have d5:=dW r0 5;have d6:=dW r0 6;have d7:=dW r0 7;have d8:=dW r0 8;have d9:=dW r0 9;have d10:=dW r0 10;simp only [iR,List.getElem?_toArray,List.getElem?_cons_succ,List.getElem?_cons_zero] at d2 d3 d4 d5 d6 d7 d8 d9 d10;clear r0 r1 hp1 ho1) | refine wpList_store_rowTo rfl 143 _ _ rfl rfl (w.heap.size+1) (dO ⟨xe,xf,xl⟩) rfl rfl 143 _ R1.out oO rfl (tu _) ?_)
  refine bodyPost_ret (v:=qJ ⟨xe,xf,xl⟩) (results_cell_row rfl _ _ (w.heap.size+1) 143 (dO ⟨xe,xf,xl⟩) (0,0) _ rfl (dP _ _ _ _ _ _ R1.out) Tryz.underlying143 rfl oO) rfl ⟨rfl,?_,?_⟩
  ·exact (setRow_other _ _ (by omega)).trans fJ.out
  ·exact Only.old (P:=fun h=>h=g∨w.heap.size≤h) ((bu.out.mono (fun _ h=>Or.inl h)).setRow (Or.inr (by omega)) _) (fun _ h=>h.symm)
theorem FM (g:Nat) (op:Int) (a:Option Addr) (m c:Nat) (x:Au.Nd) (w:World) (h4:op≠4) (h5:op≠5):
  Calls Tryz.prog 102 #[.pointer (some ⟨g,0,none⟩),qK op a m c x] w fun e w'=>e=.returned (qJ x)∧Only (fun _=>False) w w':=by
 obtain⟨xe,xf,xl⟩:=x
 have q4:(op==4)=false:=by simpa using h4
 have q5:(op==5)=false:=by simpa using h5
 clear h4 h5
 unfold qK iR
 go_enter Tryz.func102,Tryz.ntmps102
 go_wp2_with fail
 refine bodyPost_ret (v:=qJ ⟨xe,xf,xl⟩) (by simp [results,Tryz.results102,go_sem,qJ,dO]) rfl ⟨rfl,?_⟩
 exact ((Only.refl _ _).alloc _).alloc _
end Go.Proofs.YtdlabakleldgaaaGreatDoor
