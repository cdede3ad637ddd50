/- Plc Chn Pla -/
import Derived.Test.YtchaoonefiamdaaGreatDoorZ01
import Derived.Maps.OwnSet
import Derived.Maps.OwnOps
import Derived.DeepKeys4
import Derived.Deep.RegionWith
import Derived.Great.Walk
import Derived.Deep.WholeRow
namespace Go.Proofs.YtchaoonefiamdaaGreatDoor
open Go.RowKit Go.Maps
set_option linter.unusedVariables false
set_option linter.unusedSimpArgs false
def pcell (cl n:Nat) (by' nx:Nat→Nat) (fs:Nat) (vL:Value) (em:Nat) (i:Nat):Value :=
  if i=0 then .int .i64 (cl:Int) else if i=1 then .int .i64 (n:Int)
  else if i < 98 then .int .u64 (wd (by' ((i - 2) / 4)) ((i - 2) % 4):Int)
  else if i < 898 then .int .u64 (wd (nx ((i - 98) / 4)) ((i - 98) % 4):Int)
  else if i < 902 then .int .u64 (wd fs (i - 898):Int)
  else if i=902 then vL else .int .u32 (em:Int)
def pC (cl n:Nat) (by' nx:Nat→Nat) (fs:Nat) (vL:Value) (em:Nat):Array Value:=Array.ofFn (n:=904) fun i=>pcell cl n by' nx fs vL em i.val
theorem pC_size (cl n:Nat) (by' nx:Nat→Nat) (fs:Nat) (vL:Value) (em:Nat):(pC cl n by' nx fs vL em).size=904:=by simp [pC]
theorem pC_at (cl n:Nat) (by' nx:Nat→Nat) (fs:Nat) (vL:Value) (em i:Nat) (h:i < 904):(pC cl n by' nx fs vL em)[i]?=some (pcell cl n by' nx fs vL em i):=by
  rw [Array.getElem?_eq_getElem (by rw [pC_size];exact h)]
  simp [pC]
theorem pC_next (cl n:Nat) (by' nx:Nat→Nat) (fs:Nat) (vL:Value) (em i:Nat) (h:i < 200):HasS (pC cl n by' nx fs vL em) (98+4*i) (nx i):=by
  intro k hk
  rw [pC_at _ _ _ _ _ _ _ _ (by omega)]
  unfold pcell
  rw [if_neg (by omega),if_neg (by omega),if_neg (by omega),if_pos (by omega),show (98+4*i+k - 98) / 4=i by omega,show (98+4*i+k - 98) % 4=k by omega]
theorem pC_by (cl n:Nat) (by' nx:Nat→Nat) (fs:Nat) (vL:Value) (em i:Nat) (h:i < 24):HasS (pC cl n by' nx fs vL em) (2+4*i) (by' i):=by
  intro k hk
  rw [pC_at _ _ _ _ _ _ _ _ (by omega)]
  unfold pcell
  rw [if_neg (by omega),if_neg (by omega),if_pos (by omega),show (2+4*i+k - 2) / 4=i by omega,show (2+4*i+k - 2) % 4=k by omega]
theorem pC_first (cl n:Nat) (by' nx:Nat→Nat) (fs:Nat) (vL:Value) (em:Nat):HasS (pC cl n by' nx fs vL em) 898 fs:=by
  intro k hk
  rw [pC_at _ _ _ _ _ _ _ _ (by omega)]
  unfold pcell
  rw [if_neg (by omega),if_neg (by omega),if_neg (by omega),if_neg (by omega),if_pos (by omega),show 898+k - 898=k by omega]
theorem pcell_eq {cl n n':Nat} {b b' nx nx':Nat→Nat} {fs fs':Nat} {vL vL':Value} {em em' j:Nat} (h0:j=1→n=n') (h1:2≤j→j < 98→b ((j - 2) / 4)=b' ((j - 2) / 4)) (h2:98≤j→j < 898→nx ((j - 98) / 4)=nx' ((j - 98) / 4)) (h3:898≤j→j < 902→fs=fs') (h4:j=902→vL=vL') (h5:902 < j→em=em'):pcell cl n b nx fs vL em j=pcell cl n' b' nx' fs' vL' em' j:=by
  unfold pcell
  by_cases e0:j=0
  · rw [if_pos e0,if_pos e0]
  rw [if_neg e0,if_neg e0]
  by_cases e1:j=1
  · rw [if_pos e1,if_pos e1,h0 e1]
  rw [if_neg e1,if_neg e1]
  by_cases e2:j < 98
  · rw [if_pos e2,if_pos e2,h1 (by omega) e2]
  rw [if_neg e2,if_neg e2]
  by_cases e3:j < 898
  · rw [if_pos e3,if_pos e3,h2 (by omega) e3]
  rw [if_neg e3,if_neg e3]
  by_cases e4:j < 902
  · rw [if_pos e4,if_pos e4,h3 (by omega) e4]
  rw [if_neg e4,if_neg e4]
  by_cases e5:j=902
  · rw [if_pos e5,if_pos e5,h4 e5]
  rw [if_neg e5,if_neg e5,h5 (by omega)]
def upd (f:Nat→Nat) (i S:Nat):Nat→Nat:=fun j=>if j=i then S else f j
theorem upd_ne (f:Nat→Nat) {i S j:Nat} (h:j≠i):upd f i S j=f j:=if_neg h
theorem upd_eq (f:Nat→Nat) (i S:Nat):upd f i S i=S:=if_pos rfl
theorem pC_put (cl n:Nat) (b nx b' nx':Nat→Nat) (fs fs':Nat) (vL:Value) (em o S:Nat) (ho:o+4≤904) (hs:HasS (pC cl n b' nx' fs' vL em) o S) (h:∀ j,¬ (o≤j∧j < o+4)→pcell cl n b nx fs vL em j=pcell cl n b' nx' fs' vL em j):inC (pC cl n b nx fs vL em) o S 4=pC cl n b' nx' fs' vL em:=by
  apply Array.ext_getElem?
  intro j
  rw [inC_at _ _ _ _ _ (by rw [pC_size];omega)]
  by_cases e:o≤j∧j < o+4
  · rw [if_pos e]
    have:=hs (j - o) (by omega)
    rw [show o+(j - o)=j by omega] at this
    exact this.symm
  · rw [if_neg e]
    by_cases hj:j < 904
    · rw [pC_at _ _ _ _ _ _ _ _ hj,pC_at _ _ _ _ _ _ _ _ hj,h j e]
    · rw [Array.getElem?_eq_none (by rw [pC_size];omega),Array.getElem?_eq_none (by rw [pC_size];omega)]
theorem pC_putNext (cl n:Nat) (b nx:Nat→Nat) (fs:Nat) (vL:Value) (em i S:Nat) (h:i < 200):inC (pC cl n b nx fs vL em) (98+4*i) S 4=pC cl n b (upd nx i S) fs vL em :=
  pC_put _ _ _ _ _ _ _ _ _ _ _ _ (by omega) (by have:=pC_next cl n b (upd nx i S) fs vL em i h;rw [upd_eq] at this;exact this)
    (fun j hj=>pcell_eq (fun _=>rfl) (fun _ _=>rfl) (fun h1 h2=>by rw [upd_ne];omega) (fun _ _=>rfl) (fun _=>rfl) (fun _=>rfl))
theorem pC_putBy (cl n:Nat) (b nx:Nat→Nat) (fs:Nat) (vL:Value) (em i S:Nat) (h:i < 24):inC (pC cl n b nx fs vL em) (2+4*i) S 4=pC cl n (upd b i S) nx fs vL em :=
  pC_put _ _ _ _ _ _ _ _ _ _ _ _ (by omega) (by have:=pC_by cl n (upd b i S) nx fs vL em i h;rw [upd_eq] at this;exact this)
    (fun j hj=>pcell_eq (fun _=>rfl) (fun h1 h2=>by rw [upd_ne];omega) (fun _ _=>rfl) (fun _ _=>rfl) (fun _=>rfl) (fun _=>rfl))
theorem pC_putFirst (cl n:Nat) (b nx:Nat→Nat) (fs:Nat) (vL:Value) (em S:Nat):inC (pC cl n b nx fs vL em) 898 S 4=pC cl n b nx S vL em :=
  pC_put _ _ _ _ _ _ _ _ _ _ _ _ (by omega) (pC_first cl n b nx S vL em)
    (fun j hj=>pcell_eq (fun _=>rfl) (fun _ _=>rfl) (fun _ _=>rfl) (fun _ _=>by omega) (fun _=>rfl) (fun _=>rfl))
theorem pC_set (cl n:Nat) (b nx:Nat→Nat) (fs:Nat) (vL:Value) (em n':Nat) (vL':Value) (em' i:Nat) (v:Value) (hi:i < 904) (hv:v=pcell cl n' b nx fs vL' em' i) (h:∀ j,j < 904→j≠i→pcell cl n b nx fs vL em j=pcell cl n' b nx fs vL' em' j):(pC cl n b nx fs vL em).setIfInBounds i v=pC cl n' b nx fs vL' em':=by
  apply Array.ext_getElem?
  intro j
  rw [Array.getElem?_setIfInBounds]
  by_cases hj:j < 904
  · rw [pC_at _ _ _ _ _ _ _ _ hj,pC_at _ _ _ _ _ _ _ _ hj,pC_size]
    by_cases e:i=j
    · subst e
      rw [if_pos rfl,if_pos hj,hv]
    · rw [if_neg e,h j hj (fun e'=>e e'.symm)]
  · rw [if_neg (by omega),Array.getElem?_eq_none (by rw [pC_size];omega),Array.getElem?_eq_none (by rw [pC_size];omega)]
theorem pC_setN (cl n:Nat) (b nx:Nat→Nat) (fs:Nat) (vL:Value) (em n':Nat):(pC cl n b nx fs vL em).setIfInBounds 1 (.int .i64 (n':Int))=pC cl n' b nx fs vL em :=
  pC_set _ _ _ _ _ _ _ _ _ _ 1 _ (by decide) rfl (fun j _ hj=>pcell_eq (fun h=>absurd h hj) (fun _ _=>rfl) (fun _ _=>rfl) (fun _ _=>rfl) (fun _=>rfl) (fun _=>rfl))
theorem pC_setL (cl n:Nat) (b nx:Nat→Nat) (fs:Nat) (vL:Value) (em:Nat) (v:Value):(pC cl n b nx fs vL em).setIfInBounds 902 v=pC cl n b nx fs v em :=
  pC_set _ _ _ _ _ _ _ _ _ _ 902 _ (by decide) rfl (fun j _ hj=>pcell_eq (fun _=>rfl) (fun _ _=>rfl) (fun _ _=>rfl) (fun _ _=>rfl) (fun h=>absurd h hj) (fun _=>rfl))
theorem pC_setE (cl n:Nat) (b nx:Nat→Nat) (fs:Nat) (vL:Value) (em e:Nat):(pC cl n b nx fs vL em).setIfInBounds 903 (.int .u32 (e:Int))=pC cl n b nx fs vL e :=
  pC_set _ _ _ _ _ _ _ _ _ _ 903 _ (by decide) rfl (fun j hl hj=>pcell_eq (fun _=>rfl) (fun _ _=>rfl) (fun _ _=>rfl) (fun _ _=>rfl) (fun _=>rfl) (fun h=>by omega))
def Plb (w:World) (g cl n:Nat) (by' nx:Nat→Nat) (fs:Nat) (vL:Value) (em:Nat):Prop:=w.heap[g]?=some (.cells (pC cl n by' nx fs vL em) 100 (0,0))
theorem Plb.lt {w:World} {g cl n:Nat} {by' nx:Nat→Nat} {fs:Nat} {vL:Value} {em:Nat} (h:Plb w g cl n by' nx fs vL em):g < w.heap.size:=(Array.getElem?_eq_some_iff.1 h).1
theorem Plb.only {w w':World} {g cl n:Nat} {by' nx:Nat→Nat} {fs:Nat} {vL:Value} {em:Nat} {P:Nat→Prop} (h:Plb w g cl n by' nx fs vL em) (ho:Only P w w') (hn:¬ P g):Plb w' g cl n by' nx fs vL em:=(ho.block g h.lt hn).trans h
theorem Plb.cell {w:World} {g cl n:Nat} {by' nx:Nat→Nat} {fs:Nat} {vL:Value} {em:Nat} (h:Plb w g cl n by' nx fs vL em) (i:Nat) (hi:i < 904):w.cell? ⟨g,i,none⟩=some (pcell cl n by' nx fs vL em i):=(cell_blk h).trans (pC_at _ _ _ _ _ _ _ _ hi)
theorem Plb.c0 {w:World} {g cl n:Nat} {by' nx:Nat→Nat} {fs:Nat} {vL:Value} {em:Nat} (h:Plb w g cl n by' nx fs vL em):w.cell? ⟨g,0,none⟩=some (.int .i64 (cl:Int)):=h.cell 0 (by decide)
theorem Plb.c1 {w:World} {g cl n:Nat} {by' nx:Nat→Nat} {fs:Nat} {vL:Value} {em:Nat} (h:Plb w g cl n by' nx fs vL em):w.cell? ⟨g,1,none⟩=some (.int .i64 (n:Int)):=h.cell 1 (by decide)
theorem Plb.c902 {w:World} {g cl n:Nat} {by' nx:Nat→Nat} {fs:Nat} {vL:Value} {em:Nat} (h:Plb w g cl n by' nx fs vL em):w.cell? ⟨g,902,none⟩=some vL:=h.cell 902 (by decide)
theorem Plb.c903 {w:World} {g cl n:Nat} {by' nx:Nat→Nat} {fs:Nat} {vL:Value} {em:Nat} (h:Plb w g cl n by' nx fs vL em):w.cell? ⟨g,903,none⟩=some (.int .u32 (em:Int)):=h.cell 903 (by decide)
theorem Plb.fz {w:World} {g cl n:Nat} {by' nx:Nat→Nat} {fs:Nat} {vL:Value} {em:Nat} (h:Plb w g cl n by' nx fs vL em) (k:Nat):w.frozen? ⟨g,k,none⟩=false:=fz_blk h k
theorem laidOut4:laidOutB Tryz.prog=true:=by kernel_rfl
theorem types207:Tryz.prog.types.size=207:=by kernel_rfl
theorem law73:Keyed Tryz.prog 95:=Keyed.of_law (deep_law_laid laidOut4 (m:=2) (by decide) (by rw [types207];decide) (by kernel_rfl) (by kernel_rfl))
theorem wf_u64 {a:Nat} (h1:a < 18446744073709551616):(Lit.int .u64 (a:Int)).wf=true:=by
  have e1:IntKind.min .u64=0:=by decide
  have e2:IntKind.max .u64=18446744073709551615:=by decide
  have h0:(0:Int)≤(a:Int):=by omega
  have h2:(a:Int)≤18446744073709551615:=by omega
  simp only [Lit.wf,e1,e2,h0,h2,decide_true,Bool.and_self]
theorem key73 (S:Nat):∃ l,keyOf Tryz.prog 95 (sV S)=some l:=by
  have hk:Tryz.prog.keyType 95=true:=by kernel_rfl
  have hf:(sV S).formed Tryz.prog 95=true:=by
    have:Tryz.prog.cellsOf 95=4:=by kernel_rfl
    simp [sV,sC,Value.formed,Tryz.underlying95,this]
  have ht:∃ d,Tryz.prog.types.size+1=d+2:=⟨206,by rw [types207]⟩
  obtain ⟨d,hd⟩:=ht
  have hl:∃ ls,Tryz.prog.keyLits (d+2) 95 (sV S).cells.toList=some ls:=by
    unfold Program.keyLits
    simp only [Tryz.underlying95]
    have c73:Tryz.prog.cellsOf 95=4:=by kernel_rfl
    have c71:Tryz.prog.cellsOf 93=1:=by kernel_rfl
    have hlen:((sV S).cells.toList).length=Tryz.prog.cellsOf 95:=by rw [c73];rfl
    rw [if_pos hlen,c71]
    have hq:∀ k,k < 4→Tryz.prog.keyLits (d+1) 93 [.int .u64 (wd S k:Int)]=some [.int .u64 (wd S k:Int)]:=by
      intro k hk
      unfold Program.keyLits
      simp only [Tryz.underlying93]
      simp [wf_u64 (wd_lt S k)]
    have e:List.range 4=[0,1,2,3]:=rfl
    rw [e]
    have hc:(sV S).cells.toList=[.int .u64 (wd S 0:Int),.int .u64 (wd S 1:Int),.int .u64 (wd S 2:Int),.int .u64 (wd S 3:Int)]:=rfl
    rw [hc]
    simp [hq 0 (by decide),hq 1 (by decide),hq 2 (by decide),hq 3 (by decide)]
  obtain ⟨ls,hls⟩:=hl
  unfold keyOf
  simp only [Tryz.underlying95,hk,hf,Bool.and_self,if_true]
  rw [hd,hls]
  exact ⟨_,rfl⟩
def kc (P:Program) (S:Nat):Lit:=(keyOf P 95 (sV S)).getD .nil
theorem kc_key (S:Nat):keyOf Tryz.prog 95 (sV S)=some (kc Tryz.prog S):=by
  obtain ⟨l,hl⟩:=key73 S
  unfold kc
  rw [hl]
  rfl
theorem sV_inj {A B:Nat} (ha:A < 2 ^ 256) (hb:B < 2 ^ 256) (h:sV A=sV B):A=B:=by
  unfold sV sC at h
  simp only [Value.agg.injEq,Array.mk.injEq,List.cons.injEq,Value.int.injEq,true_and,and_true] at h
  refine wd_ext ha hb fun j hj=>?_
  rcases (show j=0∨j=1∨j=2∨j=3 by omega) with rfl | rfl | rfl | rfl <;> omega
theorem kc_inj {A B:Nat} (ha:A < 2 ^ 256) (hb:B < 2 ^ 256) (h:kc Tryz.prog A=kc Tryz.prog B):A=B:=by
  have e:=law73.inj (kc_key A) (by rw [h];exact kc_key B)
  exact sV_inj ha hb e
theorem eq73 {A B:Nat} (ha:A < 2 ^ 256) (hb:B < 2 ^ 256) (w:World):(Op.equalIn 10000 95 (sV A) (sV B)).run Tryz.prog w=.ok (decide (A=B)) w:=by
  obtain ⟨r,hr,hiff⟩:=run_equal_deep w (m:=2) (k:=95) (by decide) (by kernel_rfl) (by kernel_rfl) (kc_key A) (kc_key B)
  have:r=decide (A=B):=by
    by_cases h:A=B
    · subst h;simp [hiff.2 rfl]
    · rw [decide_eq_false h]
      cases r with
      | false=>rfl
      | true=>exact absurd (kc_inj ha hb (hiff.1 rfl)) h
  rw [← this]
  exact hr
end Go.Proofs.YtchaoonefiamdaaGreatDoor
namespace Go.Proofs.YtchaoonefiamdaaGreatDoor
open Go.RowKit Go.Maps
set_option linter.unusedVariables false
set_option linter.unusedSimpArgs false
def chn (nx:Nat→Nat) (A N k:Nat):Nat→Nat:=fun i=>if i < k∧A.testBit i=true then nx i ||| N else nx i
theorem chn_zero (nx:Nat→Nat) (A N:Nat):chn nx A N 0=nx:=funext fun i=>if_neg (by omega)
theorem chn_none (nx:Nat→Nat) (A k:Nat):chn nx A 0 k=nx:=funext fun i=>by unfold chn;split <;> simp
theorem chn_in (nx:Nat→Nat) (A N k:Nat) (h:A.testBit k=true):chn nx A N (k+1)=upd (chn nx A N k) k (chn nx A N k k ||| N):=funext fun i=>by
  unfold upd chn
  by_cases e:i=k
  · subst e
    rw [if_pos ⟨by omega,h⟩,if_pos rfl,if_neg (by omega)]
  · rw [if_neg e]
    by_cases h1:i < k∧A.testBit i=true
    · rw [if_pos h1,if_pos ⟨by omega,h1.2⟩]
    · rw [if_neg h1,if_neg (fun h2=>h1 ⟨by omega,h2.2⟩)]
theorem chn_out (nx:Nat→Nat) (A N k:Nat) (h:A.testBit k=false):chn nx A N (k+1)=chn nx A N k:=funext fun i=>by
  unfold chn
  by_cases e:i=k
  · subst e
    rw [if_neg (by rw [h];simp),if_neg (by omega)]
  · by_cases h1:i < k∧A.testBit i=true
    · rw [if_pos h1,if_pos ⟨by omega,h1.2⟩]
    · rw [if_neg h1,if_neg (fun h2=>h1 ⟨by omega,h2.2⟩)]
def Sb (w:World) (g S:Nat):Prop:=w.heap[g]?=some (.cells (sC S) 95 (0,0))
theorem Sb.c {w:World} {g S:Nat} (h:Sb w g S) (k:Nat) (hk:k < 4):w.cell? ⟨g,k,none⟩=some (.int .u64 (wd S k:Int)):=(cell_blk h).trans (sC_at S k hk)
theorem Sb.lt {w:World} {g S:Nat} (h:Sb w g S):g < w.heap.size:=(Array.getElem?_eq_some_iff.1 h).1
theorem Sb.only {w w':World} {g S:Nat} {P:Nat→Prop} (h:Sb w g S) (ho:Only P w w') (hn:¬ P g):Sb w' g S:=(ho.block g h.lt hn).trans h
theorem Sb.new (w:World) (S:Nat):Sb (w.alloc (.cells (sC S) 95)) w.heap.size S:=heap_alloc_new _ _
theorem Sb.alloc {w:World} {g S:Nat} (h:Sb w g S) (o:Obj):Sb (w.alloc o) g S:=(Below.heap_alloc _ _ _ h.lt).trans h
theorem eqz {N:Nat} (hN:N < 2 ^ 256) (w:World):(Op.equalIn 10000 95 (.agg #[.int .u64 (wd N 0:Int),.int .u64 (wd N 1:Int),.int .u64 (wd N 2:Int),.int .u64 (wd N 3:Int)]) (.agg #[.int .u64 0,.int .u64 0,.int .u64 0,.int .u64 0])).run Tryz.prog w=.ok (decide (N=0)) w:=by
  have h:=eq73 hN (show 0 < 2 ^ 256 by decide) w
  unfold sV sC at h
  rw [wd_zero,wd_zero,wd_zero,wd_zero] at h
  exact h
set_option maxRecDepth 100000 in
set_option maxHeartbeats 4000000 in
theorem chain_any (g cl n:Nat) (b nx:Nat→Nat) (fs:Nat) (vL:Value) (em A N:Nat) (w:World) (hP:Plb w g cl n b nx fs vL em) (hn:n≤200) (hN:N < 2 ^ 256) :
    Calls Tryz.prog 98 #[.pointer (some ⟨g,0,none⟩),sV A,sV N] w fun e w'=>e=.returned (.tuple #[])∧Plb w' g cl n b (chn nx A N n) fs vL em∧Only (·=g) w w':=by
  have hsv:∀ S,sV S=.agg #[.int .u64 (wd S 0:Int),.int .u64 (wd S 1:Int),.int .u64 (wd S 2:Int),.int .u64 (wd S 3:Int)]:=fun _=>rfl
  have hlt:=hP.lt
  have HP:Hid (Plb w g cl n b nx fs vL em):=hP
  have hc1:=hP.c1
  clear hP
  rw [hsv A,hsv N]
  clear hsv
  have HO0:Hid (Only (·=g) w ((w.alloc (.cells (sC A) 95)).alloc (.cells (sC N) 95))):=((Only.refl _ _).alloc _).alloc _
  by_cases hz:N=0
  · have hq:∀ w,(Op.equalIn 10000 95 (.agg #[.int .u64 (wd N 0:Int),.int .u64 (wd N 1:Int),.int .u64 (wd N 2:Int),.int .u64 (wd N 3:Int)]) (.agg #[.int .u64 0,.int .u64 0,.int .u64 0,.int .u64 0])).run Tryz.prog w=.ok true w:=fun w=>by rw [eqz hN,decide_eq_true hz]
    have HZ:Hid (N=0):=hz
    clear hz
    go_enter Tryz.func98,Tryz.ntmps98
    go_wp2_with fail
    refine bodyPost_ret (results_none rfl _ _ _) rfl ?_
    refine ⟨rfl,?_,HO0.out⟩
    rw [HZ.out,chn_none]
    exact HP.out.only (P:=fun _=>False) (((Only.refl _ _).alloc _).alloc _) (fun h=>h)
  · have hq:∀ w,(Op.equalIn 10000 95 (.agg #[.int .u64 (wd N 0:Int),.int .u64 (wd N 1:Int),.int .u64 (wd N 2:Int),.int .u64 (wd N 3:Int)]) (.agg #[.int .u64 0,.int .u64 0,.int .u64 0,.int .u64 0])).run Tryz.prog w=.ok false w:=fun w=>by rw [eqz hN,decide_eq_false hz]
    clear hz
    have S0:Hid (Sb ((w.alloc (.cells (sC A) 95)).alloc (.cells (sC N) 95)) w.heap.size A):=(Sb.new w A).alloc _
    have S1:Hid (Sb ((w.alloc (.cells (sC A) 95)).alloc (.cells (sC N) 95)) (w.heap.size+1) N):=heap_alloc2_new _ _ _
    have P0:Hid (Plb ((w.alloc (.cells (sC A) 95)).alloc (.cells (sC N) 95)) g cl n b nx fs vL em):=HP.out.only (P:=fun _=>False) (((Only.refl _ _).alloc _).alloc _) (fun h=>h)
    go_enter Tryz.func98,Tryz.ntmps98
    go_wp2_with fail
    go_loopg [14] n (fun gh v wr=>∃ (k:Nat) (W:World),W=wr∧gh=n - k∧k≤n∧v=.int .i64 (k:Int)∧Plb W g cl n b (chn nx A N k) fs vL em∧Sb W w.heap.size A∧Sb W (w.heap.size+1) N∧Only (·=g) w W)
    case atStart=>exact ⟨0,_,rfl,rfl,Nat.zero_le _,rfl,by rw [chn_zero];exact P0.out,S0.out,S1.out,HO0.out⟩
    case round =>
      obtain ⟨k,W,hW,rfl,hk,rfl,hPk,hA,hB,hO⟩:=hrel
      subst hW
      have HPK:Hid (Plb W g cl n b (chn nx A N k) fs vL em):=hPk
      have HA:Hid (Sb W w.heap.size A):=hA
      have HB:Hid (Sb W (w.heap.size+1) N):=hB
      have HO:Hid (Only (·=g) w W):=hO
      clear hPk hA hB hO
      by_cases hlt4:k < n
      · have t1:(k:Int) < (n:Int):=by omega
        have a0:=HA.out.c 0 (by decide)
        have a1:=HA.out.c 1 (by decide)
        have a2:=HA.out.c 2 (by decide)
        have a3:=HA.out.c 3 (by decide)
        by_cases hbit:A.testBit k=true
        · go_wp2_with (go_at_call 79;refine (has_any A k (by omega) _).mono ?_;rintro e w1 ⟨rfl,ho1⟩;have HO1:Hid (Only (fun _=>False) W w1):=ho1;have b0:=(HB.out.only ho1 (fun h=>h)).c 0 (by decide);have b1:=(HB.out.only ho1 (fun h=>h)).c 1 (by decide);have b2:=(HB.out.only ho1 (fun h=>h)).c 2 (by decide);have b3:=(HB.out.only ho1 (fun h=>h)).c 3 (by decide);clear ho1)
          go_region_with (go_at_call 55;refine (add_any g (98+k*4) (chn nx A N k k) N _ 100 _ (HPK.out.only (HO1.out.drew) (fun h=>h)) (by rw [Nat.mul_comm];exact pC_next _ _ _ _ _ _ _ k (by omega))).mono ?_;rintro e w2 ⟨rfl,hp2,ho2⟩)
          all_goals
            go_wp2_with fail
            go_roundg (n - (k+1))
            case measure=>omega
            case rel=>exact ⟨k+1,_,rfl,rfl,by omega,by go_num,by rw [Nat.mul_comm,pC_putNext _ _ _ _ _ _ _ k _ (by omega),← chn_in _ _ _ _ hbit] at hp2;exact hp2,(HA.out.only HO1.out.drew (fun h=>h)).only ho2 (by omega),(HB.out.only HO1.out.drew (fun h=>h)).only ho2 (by omega),(HO.out.trans (HO1.out.drew.mono (fun _ h=>h.elim))).trans ho2⟩
        · have hbf:A.testBit k=false:=by simpa using hbit
          go_wp2_with (go_at_call 79;refine (has_any A k (by omega) _).mono ?_;rintro e w1 ⟨rfl,ho1⟩)
          go_roundg (n - (k+1))
          case measure=>omega
          case rel=>exact ⟨k+1,_,rfl,rfl,by omega,by go_num,by rw [chn_out _ _ _ _ hbf];exact HPK.out.only ho1 (fun h=>h),HA.out.only ho1 (fun h=>h),HB.out.only ho1 (fun h=>h),HO.out.trans (ho1.mono (fun _ h=>h.elim))⟩
      · have t2:decide ((k:Int) < (n:Int))=false:=decide_eq_false (by omega)
        obtain rfl:k=n:=by omega
        go_wp2_with fail
        go_end0
        exact ⟨rfl,HPK.out,HO.out⟩
end Go.Proofs.YtchaoonefiamdaaGreatDoor
namespace Go.Proofs.YtchaoonefiamdaaGreatDoor
open Go.RowKit Go.Maps
set_option linter.unusedVariables false
set_option linter.unusedSimpArgs false
def ptC (x:Au.Nd):Array Value:=#[.bool x.none,.int .u64 (wd x.first 0:Int),.int .u64 (wd x.first 1:Int),.int .u64 (wd x.first 2:Int),.int .u64 (wd x.first 3:Int),.int .u64 (wd x.last 0:Int),.int .u64 (wd x.last 1:Int),.int .u64 (wd x.last 2:Int),.int .u64 (wd x.last 3:Int)]
def ptV (x:Au.Nd):Value:=.agg (ptC x)
def fmC (op:Int) (a:Option Addr) (n c:Nat) (x:Au.Nd):Array Value:=#[.int .u8 op,.slice a n c,.bool x.none,.int .u64 (wd x.first 0:Int),.int .u64 (wd x.first 1:Int),.int .u64 (wd x.first 2:Int),.int .u64 (wd x.first 3:Int),.int .u64 (wd x.last 0:Int),.int .u64 (wd x.last 1:Int),.int .u64 (wd x.last 2:Int),.int .u64 (wd x.last 3:Int)]
def fmV (op:Int) (a:Option Addr) (n c:Nat) (x:Au.Nd):Value:=.agg (fmC op a n c x)
theorem one_list:∀ (l:List Value),(∀ v∈l,v.oneCell'=true)→l.toArray.all (·.oneCell')=true:=by
  intro l h
  rw [Array.all_eq_true_iff_forall_mem]
  intro v hv
  exact h v (by simpa using hv)
theorem ptC_one (x:Au.Nd):(ptC x).all (·.oneCell')=true:=one_list _ (by intro v hv;simp at hv;rcases hv with rfl | rfl | rfl | rfl | rfl | rfl | rfl | rfl | rfl <;> rfl)
theorem fmC_one (op:Int) (a:Option Addr) (n c:Nat) (x:Au.Nd):(fmC op a n c x).all (·.oneCell')=true:=one_list _ (by intro v hv;simp at hv;rcases hv with rfl | rfl | rfl | rfl | rfl | rfl | rfl | rfl | rfl | rfl | rfl <;> rfl)
theorem sC_one (S:Nat):(sC S).all (·.oneCell')=true:=one_list _ (by intro v hv;simp at hv;rcases hv with rfl | rfl | rfl | rfl <;> rfl)
theorem sz109:(Tryz.prog.info? 113).map (·.size)=some 9:=by kernel_rfl
theorem sz136:(Tryz.prog.info? 144).map (·.size)=some 11:=by kernel_rfl
theorem heap_setRow (w:World) (g:Nat) (t:TypeId) (c c':Array Value) (fr:Nat × Nat) (h:w.heap[g]?=some (.cells c t fr)):(w.setRow g c').heap[g]?=some (.cells c' t fr):=by
  obtain ⟨hb,e⟩:=Array.getElem?_eq_some_iff.1 h
  simp [World.setRow,hb,Array.getElem_modify,e]
theorem setRow_other (w:World) {g h:Nat} (c:Array Value) (hn:h≠g):(w.setRow g c).heap[h]?=w.heap[h]?:=by
  simp only [World.setRow,Array.getElem?_modify]
  rw [if_neg (fun e=>hn e.symm)]
theorem Only.setRow {S:Nat→Prop} {a w:World} (h:Only S a w) {g:Nat} (hg:S g) (c:Array Value):Only S a (w.setRow g c) :=
  h.trans ⟨rfl,rfl,rfl,by simp [World.setRow],fun k hk hS=>setRow_other w c (fun e=>hS (e ▸ hg))⟩
def byk (b:Nat→Nat) (s:Int) (n k:Nat):Nat→Nat:=fun c=>if c < k∧s / 2 ^ c % 2=1 then b c ||| 2 ^ n else b c
theorem byk_zero (b:Nat→Nat) (s:Int) (n:Nat):byk b s n 0=b:=funext fun i=>if_neg (by omega)
theorem byk_in (b:Nat→Nat) (s:Int) (n k:Nat) (h:s / 2 ^ k % 2=1):byk b s n (k+1)=upd (byk b s n k) k (byk b s n k k ||| 2 ^ n):=funext fun i=>by
  unfold upd byk
  by_cases e:i=k
  · subst e
    rw [if_pos ⟨by omega,h⟩,if_pos rfl,if_neg (by omega)]
  · rw [if_neg e]
    by_cases h1:i < k∧s / 2 ^ i % 2=1
    · rw [if_pos h1,if_pos ⟨by omega,h1.2⟩]
    · rw [if_neg h1,if_neg (fun h2=>h1 ⟨by omega,h2.2⟩)]
theorem byk_out (b:Nat→Nat) (s:Int) (n k:Nat) (h:¬ s / 2 ^ k % 2=1):byk b s n (k+1)=byk b s n k:=funext fun i=>by
  unfold byk
  by_cases e:i=k
  · subst e
    rw [if_neg (fun h2=>h h2.2),if_neg (by omega)]
  · by_cases h1:i < k∧s / 2 ^ i % 2=1
    · rw [if_pos h1,if_pos ⟨by omega,h1.2⟩]
    · rw [if_neg h1,if_neg (fun h2=>h1 ⟨by omega,h2.2⟩)]
theorem and1u {s:Int} (h0:0≤s) (h1:s < 4294967296) (k:Nat):(bits .and .u32 (s / 2 ^ k) 1 == 1)=decide (s / 2 ^ k % 2=1):=by
  obtain ⟨m,rfl⟩:∃ m:Nat,s=(m:Int):=⟨s.toNat,by omega⟩
  have e:((m:Int) / 2 ^ k)=((m / 2 ^ k:Nat):Int):=by push_cast;rfl
  have hl:m / 2 ^ k < 4294967296:=Nat.lt_of_le_of_lt (Nat.div_le_self _ _) (by omega)
  rw [e,show (1:Int)=((1:Nat):Int) from rfl,u32_and_nat _ _ hl (by decide),nat_mask1]
  by_cases h:(m / 2 ^ k) % 2=1
  · rw [h,decide_eq_true (by omega)];rfl
  · have:m / 2 ^ k % 2=0:=by omega
    rw [this,decide_eq_false (by omega)];rfl
set_option maxRecDepth 100000 in
set_option maxHeartbeats 4000000 in
theorem plc_any (g cl n:Nat) (b nx:Nat→Nat) (fs:Nat) (vL:Value) (em:Nat) (s:Int) (w:World) (hP:Plb w g cl n b nx fs vL em) (hn:n < 200) (hcl:cl≤24) (hs0:0≤s) (hs1:s < 4294967296) :
    Calls Tryz.prog 96 #[.pointer (some ⟨g,0,none⟩),.int .u32 s] w fun e w'=>e=.returned (ptV ⟨false,2 ^ n,2 ^ n⟩)∧Plb w' g cl (n+1) (byk b s n cl) nx fs vL em∧Only (·=g) w w':=by
  have hlt:=hP.lt
  have hc0:=hP.c0
  have hc1:=hP.c1
  have HP:Hid (Plb w g cl n b nx fs vL em):=hP
  clear hP
  have HQ0:Hid ((((w.alloc (.cells #[.bool false,.int .u64 0,.int .u64 0,.int .u64 0,.int .u64 0,.int .u64 0,.int .u64 0,.int .u64 0,.int .u64 0] 113)).alloc (.cells #[.int .u64 0,.int .u64 0,.int .u64 0,.int .u64 0] 95))).heap[w.heap.size]?=some (.cells #[.bool false,.int .u64 0,.int .u64 0,.int .u64 0,.int .u64 0,.int .u64 0,.int .u64 0,.int .u64 0,.int .u64 0] 113 (0,0))):=(Below.heap_alloc _ _ _ (by simp)).trans (heap_alloc_new _ _)
  have HS0:Hid ((((w.alloc (.cells #[.bool false,.int .u64 0,.int .u64 0,.int .u64 0,.int .u64 0,.int .u64 0,.int .u64 0,.int .u64 0,.int .u64 0] 113)).alloc (.cells #[.int .u64 0,.int .u64 0,.int .u64 0,.int .u64 0] 95))).heap[w.heap.size+1]?=some (.cells (sC 0) 95 (0,0))):=heap_alloc2_new _ _ _
  have HO0:Hid (Only (fun _=>False) w ((w.alloc (.cells #[.bool false,.int .u64 0,.int .u64 0,.int .u64 0,.int .u64 0,.int .u64 0,.int .u64 0,.int .u64 0,.int .u64 0] 113)).alloc (.cells #[.int .u64 0,.int .u64 0,.int .u64 0,.int .u64 0] 95))):=((Only.refl _ _).alloc _).alloc _
  go_enter Tryz.func96,Tryz.ntmps96
  go_wp2_with (go_at_call 106;refine (put_new (w.heap.size+1) n (by omega) _ HS0.out).mono ?_;rintro e w1 ⟨rfl,hs1,ho1⟩;have HS1:Hid (Sb w1 (w.heap.size+1) (2 ^ n)):=hs1;have HO1:Hid (Only (fun g=>w.heap.size≤g) w w1):=(HO0.out.mono (fun _ h=>h.elim)).trans (ho1.mono (fun _ h=>by omega));have HP1:Hid (Plb w1 g cl n b nx fs vL em):=HP.out.only HO1.out (by omega);have HQ1:Hid (w1.heap[w.heap.size]?=some (.cells #[.bool false,.int .u64 0,.int .u64 0,.int .u64 0,.int .u64 0,.int .u64 0,.int .u64 0,.int .u64 0,.int .u64 0] 113 (0,0))):=(ho1.block _ (Array.getElem?_eq_some_iff.1 HQ0.out).1 (by omega)).trans HQ0.out;have k0:=HP1.out.c0;have k1:=HP1.out.c1;have kf:=HP1.out.fz 1;clear hs1 ho1)
  have HP2:Hid (Plb (w1.setCell ⟨g,1,none⟩ (.int .i64 ((n:Int)+1))) g cl (n+1) b nx fs vL em):=by
    have h:=heap_setCell_at (k:=1) HP1.out (.int .i64 ((n+1:Nat):Int))
    rw [pC_setN] at h
    exact h
  have HO2:Hid (Only (fun g=>w.heap.size≤g) w1 w1):=Only.refl _ _
  have HO3:Hid (Only (fun h=>h=g∨w.heap.size≤h) w (w1.setCell ⟨g,1,none⟩ (.int .i64 ((n:Int)+1)))):=Only.setCell (S:=fun h=>h=g∨w.heap.size≤h) (HO1.out.mono (fun _ h=>Or.inr h)) (p:=⟨g,1,none⟩) (Or.inl rfl) _
  have HS3:Hid (Sb (w1.setCell ⟨g,1,none⟩ (.int .i64 ((n:Int)+1))) (w.heap.size+1) (2 ^ n)):=(Below.heap_setCell _ _ _ _ (by show w.heap.size+1≠g;omega)).trans HS1.out
  have HQ3:Hid ((w1.setCell ⟨g,1,none⟩ (.int .i64 ((n:Int)+1))).heap[w.heap.size]?=some (.cells #[.bool false,.int .u64 0,.int .u64 0,.int .u64 0,.int .u64 0,.int .u64 0,.int .u64 0,.int .u64 0,.int .u64 0] 113 (0,0))):=(Below.heap_setCell _ _ _ _ (by show w.heap.size≠g;omega)).trans HQ1.out
  go_loopg [23] cl (fun gh v wr=>∃ (k:Nat) (W:World),W=wr∧gh=cl - k∧k≤cl∧v=.int .i64 (k:Int)∧Plb W g cl (n+1) (byk b s n k) nx fs vL em∧Sb W (w.heap.size+1) (2 ^ n)∧W.heap[w.heap.size]?=some (.cells #[.bool false,.int .u64 0,.int .u64 0,.int .u64 0,.int .u64 0,.int .u64 0,.int .u64 0,.int .u64 0,.int .u64 0] 113 (0,0))∧Only (fun h=>h=g∨w.heap.size≤h) w W)
  case atStart=>exact ⟨0,_,rfl,rfl,Nat.zero_le _,rfl,by rw [byk_zero];exact HP2.out,HS3.out,HQ3.out,HO3.out⟩
  case round =>
    obtain ⟨k,W,hW,rfl,hk,rfl,hPk,hS,hQ,hO⟩:=hrel
    subst hW
    have HPK:Hid (Plb W g cl (n+1) (byk b s n k) nx fs vL em):=hPk
    have HS:Hid (Sb W (w.heap.size+1) (2 ^ n)):=hS
    have HQ:Hid (W.heap[w.heap.size]?=some (.cells #[.bool false,.int .u64 0,.int .u64 0,.int .u64 0,.int .u64 0,.int .u64 0,.int .u64 0,.int .u64 0,.int .u64 0] 113 (0,0))):=hQ
    have HO:Hid (Only (fun h=>h=g∨w.heap.size≤h) w W):=hO
    have b0:=hS.c 0 (by decide)
    have b1:=hS.c 1 (by decide)
    have b2:=hS.c 2 (by decide)
    have b3:=hS.c 3 (by decide)
    clear hPk hS hQ hO k0 k1 kf hc0 hc1
    by_cases hlt4:k < cl
    · have t1:(k:Int) < (cl:Int):=by omega
      by_cases hbit:s / 2 ^ k % 2=1
      · have hq:(bits .and .u32 (s / 2 ^ k) 1 == 1)=true:=by rw [and1u hs0 hs1,decide_eq_true hbit]
        have HB:Hid (s / 2 ^ k % 2=1):=hbit
        clear hbit
        go_wp2_with fail
        go_region_with (go_at_call 55;refine (add_any g (2+k*4) (byk b s n k k) (2 ^ n) _ 100 _ (HPK.out.only ((Only.refl (fun _=>False) W).drew) (fun h=>h)) (by rw [Nat.mul_comm];exact pC_by _ _ _ _ _ _ _ k (by omega))).mono ?_;rintro e w2 ⟨rfl,hp2,ho2⟩)
        all_goals
          go_wp2_with fail
          go_roundg (cl - (k+1))
          case measure=>omega
          case rel=>exact ⟨k+1,_,rfl,rfl,by omega,by go_num,by rw [Nat.mul_comm,pC_putBy _ _ _ _ _ _ _ k _ (by omega),← byk_in _ _ _ _ HB.out] at hp2;exact hp2,(HS.out.only ((Only.refl (fun _=>False) W).drew) (fun h=>h)).only ho2 (by omega),((ho2.block _ (Array.getElem?_eq_some_iff.1 HQ.out).1 (by omega)).trans HQ.out),HO.out.drew.trans (ho2.mono (fun _ h=>Or.inl h))⟩
      · have hq:(bits .and .u32 (s / 2 ^ k) 1 == 1)=false:=by rw [and1u hs0 hs1,decide_eq_false hbit]
        have HB:Hid (¬ s / 2 ^ k % 2=1):=hbit
        clear hbit
        go_wp2_with fail
        go_roundg (cl - (k+1))
        case measure=>omega
        case rel=>exact ⟨k+1,_,rfl,rfl,by omega,by go_num,by rw [byk_out _ _ _ _ HB.out];exact HPK.out,HS.out,HQ.out,HO.out⟩
    · have t2:decide ((k:Int) < (cl:Int))=false:=decide_eq_false (by omega)
      obtain rfl:k=cl:=by omega
      go_wp2_with (refine wpList_store_rowTo rfl 113 _ _ rfl rfl w.heap.size (ptC ⟨false,2 ^ n,2 ^ n⟩) rfl rfl 113 _ HQ.out sz109 rfl (ptC_one _) ?_)
      refine bodyPost_ret (v:=ptV ⟨false,2 ^ n,2 ^ n⟩) (results_cell_row rfl _ _ w.heap.size 113 (ptC ⟨false,2 ^ n,2 ^ n⟩) (0,0) _ rfl (heap_setRow _ _ _ _ _ _ HQ.out) Tryz.underlying113 rfl sz109) rfl ⟨rfl,?_,?_⟩
      · exact (setRow_other _ _ (by omega)).trans HPK.out
      · exact (HO.out.setRow (Or.inr (Nat.le_refl _)) _).old (fun _ h=>h.symm)
set_option maxRecDepth 100000 in
set_option maxHeartbeats 4000000 in
theorem firstKid_any (o s:Int) (a:Option Addr) (n c:Nat) (w:World) (hnc:n≤c) (hn:n≤maxLen) (ha:0 < n→∃ b off,a=some ⟨b,off,none⟩) :
    Calls Tryz.prog 97 #[.agg #[.int .u8 o,.int .u32 s,.slice a n c]] w fun e w'=>e=.returned (.slice a (min 1 n) c)∧Only (fun _=>False) w w':=by
  unfold maxLen at hn
  by_cases h0:n=0
  · subst h0
    go_enter Tryz.func97,Tryz.ntmps97
    go_wp2_with fail
    go_ret
    exact ⟨rfl,(Only.refl _ _).alloc _⟩
  · obtain ⟨b,off,rfl⟩:=ha (by omega)
    have e1:min 1 n=1:=by omega
    have e2:(min 1 (n:Int))=1:=by omega
    have e3:(1:Int)≤(c:Int):=by omega
    rw [e1]
    go_enter Tryz.func97,Tryz.ntmps97
    go_wp2_with fail
    go_ret
    exact ⟨rfl,(Only.refl _ _).alloc _⟩
end Go.Proofs.YtchaoonefiamdaaGreatDoor
