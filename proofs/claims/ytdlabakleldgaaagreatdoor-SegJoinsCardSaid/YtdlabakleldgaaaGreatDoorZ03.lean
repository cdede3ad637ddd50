/- Beg Beg2 Mid Beg1 -/
import Derived.Test.YtdlabakleldgaaaGreatDoorZ02
import Derived.Deep.MidRow
import Derived.Test.YtdlabakleldgaaaGreatDoorZ00
set_option linter.unusedVariables false
set_option linter.unusedSimpArgs false
set_option maxRecDepth 100000
set_option maxHeartbeats 8000000
namespace Go.Proofs.YtdlabakleldgaaaGreatDoor
open Go.RowKit Go.Maps
theorem a_ {P:Program} {fn:Func} {p u:Tmp} {ty:TypeId} (h:fn.results=#[.cell p ty,.tmp u]) (tmps:Array Value) (w:World) (g:Nat) (t:TypeId) (cs:Array Value) (fr:Nat × Nat) (d:TypeDesc)
  (hp:tmps.getD p undef=.pointer (some ⟨g,0,none⟩)) (hg:w.heap[g]?=some (.cells cs t fr)) (hu:P.underlying ty=some d) (hd:(match d with | .struct _ | .array _ _=>true | _=>false)=true) (hi:(P.info? ty).map (·.size)=some cs.size)
  {y:Value} (hy:tmps.getD u undef=y):(results fn tmps).run P w=.ok (.tuple #[.agg cs,y]) w:=by
 have hp':tmps[p]?.getD undef=.pointer (some ⟨g,0,none⟩):=by simpa using hp
 have hy':tmps[u]?.getD undef=y:=by simpa using hy
 simp [results,h,hp',hy',asAddr,run_loadVar_row w g t ty cs fr d hg hu hd hi]
theorem QI (g:Nat) (set:Int) (a:Option Addr) (m c:Nat) (w:World):
  Calls Tryz.prog 101 #[.pointer (some ⟨g,0,none⟩),.agg #[.int .u8 2,.int .u32 set,.slice a m c]] w fun e w'=>e=.returned (.tuple #[qK 2 a m c ⟨true,0,0⟩,.bool true])∧Only (fun _=>False) w w':=by
 go_enter Tryz.func101,Tryz.ntmps101
 go_wp2_with fail
 refine bodyPost_ret (v:=.tuple #[qK 2 a m c ⟨true,0,0⟩,.bool true]) (by simp [results,Tryz.results101,go_sem,qK,iR,bL]) rfl ⟨rfl,?_⟩
 exact (((Only.refl _ _).alloc _).alloc _).alloc _
theorem QJ (g:Nat) (set:Int) (a:Option Addr) (m c:Nat) (w:World):
  Calls Tryz.prog 101 #[.pointer (some ⟨g,0,none⟩),.agg #[.int .u8 3,.int .u32 set,.slice a m c]] w fun e w'=>e=.returned (.tuple #[qK 3 a m c ⟨false,0,0⟩,.bool true])∧Only (fun _=>False) w w':=by
 go_enter Tryz.func101,Tryz.ntmps101
 go_wp2_with fail
 refine bodyPost_ret (v:=.tuple #[qK 3 a m c ⟨false,0,0⟩,.bool true]) (by simp [results,Tryz.results101,go_sem,qK,iR,bL]) rfl ⟨rfl,?_⟩
 exact (((Only.refl _ _).alloc _).alloc _).alloc _
theorem QK (g:Nat) (op:Int) (set:Int) (a:Option Addr) (m c:Nat) (w:World) (h:op < 1∨6 < op):
  Calls Tryz.prog 101 #[.pointer (some ⟨g,0,none⟩),.agg #[.int .u8 op,.int .u32 set,.slice a m c]] w fun e w'=>e=.returned (.tuple #[qK op none 0 0 ⟨true,0,0⟩,.bool true])∧Only (fun _=>False) w w':=by
 have q1:(op==1)=false:=by simp;omega
 have q2:(op==2)=false:=by simp;omega
 have q3:(op==3)=false:=by simp;omega
 have q4:(op==4)=false:=by simp;omega
 have q5:(op==5)=false:=by simp;omega
 have q6:(op==6)=false:=by simp;omega
 clear h
 go_enter Tryz.func101,Tryz.ntmps101
 go_wp2_with fail
 refine bodyPost_ret (v:=.tuple #[qK op none 0 0 ⟨true,0,0⟩,.bool true]) (by simp [results,Tryz.results101,go_sem,qK,iR,bL]) rfl ⟨rfl,?_⟩
 exact (((Only.refl _ _).alloc _).alloc _).alloc _
def zF (op:Int):Array Value:=iR op none 0 0 ⟨false,0,0⟩
theorem oQ (op:Int):zF op=#[.int .u8 op,.slice none 0 0,.bool false,.int .u64 0,.int .u64 0,.int .u64 0,.int .u64 0,.int .u64 0,.int .u64 0,.int .u64 0,.int .u64 0]:=by simp [zF,iR,bL]
theorem bS (w:World) (o1 o2 o3:Obj):(((w.alloc o1).alloc o2).alloc o3).heap[w.heap.size+1+1]?=some o3:=by
 have e:w.heap.size+1+1=((w.alloc o1).alloc o2).heap.size:=by simp
 rw [e]
 exact heap_alloc_new _ _
theorem QL (g:Nat) (set:Int) (a:Option Addr) (m c:Nat) (w:World) (hnc:m≤c) (hn:m≤maxLen) (ha:0 < m→∃b off,a=some ⟨b,off,none⟩):
  Calls Tryz.prog 101 #[.pointer (some ⟨g,0,none⟩),.agg #[.int .u8 4,.int .u32 set,.slice a m c]] w fun e w'=>e=.returned (.tuple #[qK 4 a (min 1 m) c ⟨true,0,0⟩,.bool true])∧Only (fun _=>False) w w':=by
 have HK:Hid (∀w,Calls Tryz.prog 123 #[.agg #[.int .u8 4,.int .u32 set,.slice a m c]] w fun e w'=>e=.returned (.slice a (min 1 m) c)∧Only (fun _=>False) w w'):=fun w=>jl 4 set a m c w hnc hn ha
 clear hnc hn ha
 generalize min 1 m=m1 at HK ⊢
 have R1:Hid (((((w.alloc (.cells #[.int .u8 4,.int .u32 set,.slice a m c] 117)).alloc (.cells #[.int .u8 0,.slice none 0 0,.bool false,.int .u64 0,.int .u64 0,.int .u64 0,.int .u64 0,.int .u64 0,.int .u64 0,.int .u64 0,.int .u64 0] 171)).alloc (.cells #[.int .u8 4,.slice none 0 0,.bool false,.int .u64 0,.int .u64 0,.int .u64 0,.int .u64 0,.int .u64 0,.int .u64 0,.int .u64 0,.int .u64 0] 171))).heap[w.heap.size+1]?=some (.cells (zF 0) 171 (0,0))):=by rw [oQ];exact (Below.heap_alloc _ _ _ (by simp)).trans (heap_alloc2_new _ _ _)
 have R2:Hid (((((w.alloc (.cells #[.int .u8 4,.int .u32 set,.slice a m c] 117)).alloc (.cells #[.int .u8 0,.slice none 0 0,.bool false,.int .u64 0,.int .u64 0,.int .u64 0,.int .u64 0,.int .u64 0,.int .u64 0,.int .u64 0,.int .u64 0] 171)).alloc (.cells #[.int .u8 4,.slice none 0 0,.bool false,.int .u64 0,.int .u64 0,.int .u64 0,.int .u64 0,.int .u64 0,.int .u64 0,.int .u64 0,.int .u64 0] 171))).heap[w.heap.size+1+1]?=some (.cells (zF 4) 171 (0,0))):=by rw [oQ];exact bS _ _ _ _
 have O0:Hid (Only (fun _=>False) w ((((w.alloc (.cells #[.int .u8 4,.int .u32 set,.slice a m c] 117)).alloc (.cells #[.int .u8 0,.slice none 0 0,.bool false,.int .u64 0,.int .u64 0,.int .u64 0,.int .u64 0,.int .u64 0,.int .u64 0,.int .u64 0,.int .u64 0] 171)).alloc (.cells #[.int .u8 4,.slice none 0 0,.bool false,.int .u64 0,.int .u64 0,.int .u64 0,.int .u64 0,.int .u64 0,.int .u64 0,.int .u64 0,.int .u64 0] 171)))):=(((Only.refl _ _).alloc _).alloc _).alloc _
 go_enter Tryz.func101,Tryz.ntmps101
 go_wp2_with (first |(go_at_call 123;refine (HK.out _).mono ?_;rintro e w1 ⟨rfl,ho1⟩;have k1:=(ho1.block _ (Array.getElem?_eq_some_iff.1 R1.out).1 (fun h=>h)).trans R1.out;have k2:=(ho1.block _ (Array.getElem?_eq_some_iff.1 R2.out).1 (fun h=>h)).trans R2.out;have HN:Hid (((w1.setCell ⟨w.heap.size+1+1,1,none⟩ (.slice a m1 c)).setCell ⟨w.heap.size+1+1,2,none⟩ (.bool true)).heap[w.heap.size+1+1]?=some (.cells (iR 4 a m1 c ⟨true,0,0⟩) 171 (0,0))):=aa (k:=2) (aa (k:=1) k2 (.slice a m1 c)) (.bool true);have xQ:Hid (((w1.setCell ⟨w.heap.size+1+1,1,none⟩ (.slice a m1 c)).setCell ⟨w.heap.size+1+1,2,none⟩ (.bool true)).heap[w.heap.size+1]?=some (.cells (zF 0) 171 (0,0))):=((Below.heap_setCell _ _ _ _ (by simp)).trans ((Below.heap_setCell _ _ _ _ (by simp)).trans k1));have HO:Hid (Only (fun g=>w.heap.size≤g) w ((w1.setCell ⟨w.heap.size+1+1,1,none⟩ (.slice a m1 c)).setCell ⟨w.heap.size+1+1,2,none⟩ (.bool true))):=((((O0.out.trans ho1).mono (S':=fun g=>w.heap.size≤g) (fun _ h=>h.elim)).setCell (p:=⟨w.heap.size+1+1,1,none⟩) (show w.heap.size≤w.heap.size+1+1 by omega) _).setCell (p:=⟨w.heap.size+1+1,2,none⟩) (show w.heap.size≤w.heap.size+1+1 by omega) _);have c1:w1.cell? ⟨w.heap.size+1+1,1,none⟩=some (.slice none 0 0):=ae k2;have c2:w1.cell? ⟨w.heap.size+1+1,2,none⟩=some (.bool false):=ae k2;have f1:=ak k2 1;have f2:=ak k2 2;clear k1 k2 ho1) | refine wpList_load_row rfl 171 _ rfl (w.heap.size+1+1) rfl 171 _ (0,0) _ HN.out Tryz.underlying171 rfl iB ?_ | refine wpList_store_rowTo rfl 171 _ _ rfl rfl (w.heap.size+1) (iR 4 a m1 c ⟨true,0,0⟩) rfl rfl 171 _ xQ.out iB rfl (jk _ _ _ _ _) ?_)
 refine bodyPost_ret (v:=.tuple #[qK 4 a m1 c ⟨true,0,0⟩,.bool true]) (a_ (p:=4) (u:=5) rfl _ _ (w.heap.size+1) 171 (iR 4 a m1 c ⟨true,0,0⟩) (0,0) _ rfl (dP _ _ _ _ _ _ xQ.out) Tryz.underlying171 rfl iB rfl) rfl ⟨rfl,?_⟩
 exact (HO.out.setRow (by omega) _).old (fun _ h=>Or.inl h)
theorem QM (g:Nat) (set:Int) (a:Option Addr) (m c:Nat) (w:World) (hnc:m≤c) (hn:m≤maxLen) (ha:0 < m→∃b off,a=some ⟨b,off,none⟩):
  Calls Tryz.prog 101 #[.pointer (some ⟨g,0,none⟩),.agg #[.int .u8 5,.int .u32 set,.slice a m c]] w fun e w'=>e=.returned (.tuple #[qK 5 a (min 1 m) c ⟨false,0,0⟩,.bool true])∧Only (fun _=>False) w w':=by
 have HK:Hid (∀w,Calls Tryz.prog 123 #[.agg #[.int .u8 5,.int .u32 set,.slice a m c]] w fun e w'=>e=.returned (.slice a (min 1 m) c)∧Only (fun _=>False) w w'):=fun w=>jl 5 set a m c w hnc hn ha
 clear hnc hn ha
 generalize min 1 m=m1 at HK ⊢
 have R1:Hid (((((w.alloc (.cells #[.int .u8 5,.int .u32 set,.slice a m c] 117)).alloc (.cells #[.int .u8 0,.slice none 0 0,.bool false,.int .u64 0,.int .u64 0,.int .u64 0,.int .u64 0,.int .u64 0,.int .u64 0,.int .u64 0,.int .u64 0] 171)).alloc (.cells #[.int .u8 5,.slice none 0 0,.bool false,.int .u64 0,.int .u64 0,.int .u64 0,.int .u64 0,.int .u64 0,.int .u64 0,.int .u64 0,.int .u64 0] 171))).heap[w.heap.size+1]?=some (.cells (zF 0) 171 (0,0))):=by rw [oQ];exact (Below.heap_alloc _ _ _ (by simp)).trans (heap_alloc2_new _ _ _)
 have R2:Hid (((((w.alloc (.cells #[.int .u8 5,.int .u32 set,.slice a m c] 117)).alloc (.cells #[.int .u8 0,.slice none 0 0,.bool false,.int .u64 0,.int .u64 0,.int .u64 0,.int .u64 0,.int .u64 0,.int .u64 0,.int .u64 0,.int .u64 0] 171)).alloc (.cells #[.int .u8 5,.slice none 0 0,.bool false,.int .u64 0,.int .u64 0,.int .u64 0,.int .u64 0,.int .u64 0,.int .u64 0,.int .u64 0,.int .u64 0] 171))).heap[w.heap.size+1+1]?=some (.cells (zF 5) 171 (0,0))):=by rw [oQ];exact bS _ _ _ _
 have O0:Hid (Only (fun _=>False) w ((((w.alloc (.cells #[.int .u8 5,.int .u32 set,.slice a m c] 117)).alloc (.cells #[.int .u8 0,.slice none 0 0,.bool false,.int .u64 0,.int .u64 0,.int .u64 0,.int .u64 0,.int .u64 0,.int .u64 0,.int .u64 0,.int .u64 0] 171)).alloc (.cells #[.int .u8 5,.slice none 0 0,.bool false,.int .u64 0,.int .u64 0,.int .u64 0,.int .u64 0,.int .u64 0,.int .u64 0,.int .u64 0,.int .u64 0] 171)))):=(((Only.refl _ _).alloc _).alloc _).alloc _
 go_enter Tryz.func101,Tryz.ntmps101
 go_wp2_with (first |(go_at_call 123;refine (HK.out _).mono ?_;rintro e w1 ⟨rfl,ho1⟩;have k1:=(ho1.block _ (Array.getElem?_eq_some_iff.1 R1.out).1 (fun h=>h)).trans R1.out;have k2:=(ho1.block _ (Array.getElem?_eq_some_iff.1 R2.out).1 (fun h=>h)).trans R2.out;have HN:Hid ((w1.setCell ⟨w.heap.size+1+1,1,none⟩ (.slice a m1 c)).heap[w.heap.size+1+1]?=some (.cells (iR 5 a m1 c ⟨false,0,0⟩) 171 (0,0))):=aa (k:=1) k2 (.slice a m1 c);have xQ:Hid ((w1.setCell ⟨w.heap.size+1+1,1,none⟩ (.slice a m1 c)).heap[w.heap.size+1]?=some (.cells (zF 0) 171 (0,0))):=((Below.heap_setCell _ _ _ _ (by simp)).trans k1);have HO:Hid (Only (fun g=>w.heap.size≤g) w (w1.setCell ⟨w.heap.size+1+1,1,none⟩ (.slice a m1 c))):=(((O0.out.trans ho1).mono (S':=fun g=>w.heap.size≤g) (fun _ h=>h.elim)).setCell (p:=⟨w.heap.size+1+1,1,none⟩) (show w.heap.size≤w.heap.size+1+1 by omega) _);have c1:w1.cell? ⟨w.heap.size+1+1,1,none⟩=some (.slice none 0 0):=ae k2;have c2:w1.cell? ⟨w.heap.size+1+1,2,none⟩=some (.bool false):=ae k2;have f1:=ak k2 1;have f2:=ak k2 2;clear k1 k2 ho1) | refine wpList_load_row rfl 171 _ rfl (w.heap.size+1+1) rfl 171 _ (0,0) _ HN.out Tryz.underlying171 rfl iB ?_ | refine wpList_store_rowTo rfl 171 _ _ rfl rfl (w.heap.size+1) (iR 5 a m1 c ⟨false,0,0⟩) rfl rfl 171 _ xQ.out iB rfl (jk _ _ _ _ _) ?_)
 refine bodyPost_ret (v:=.tuple #[qK 5 a m1 c ⟨false,0,0⟩,.bool true]) (a_ (p:=4) (u:=5) rfl _ _ (w.heap.size+1) 171 (iR 5 a m1 c ⟨false,0,0⟩) (0,0) _ rfl (dP _ _ _ _ _ _ xQ.out) Tryz.underlying171 rfl iB rfl) rfl ⟨rfl,?_⟩
 exact (HO.out.setRow (by omega) _).old (fun _ h=>Or.inl h)
theorem QN (g:Nat) (set:Int) (a:Option Addr) (m c:Nat) (w:World) (hnc:m≤c) (hn:m≤maxLen) (ha:0 < m→∃b off,a=some ⟨b,off,none⟩):
  Calls Tryz.prog 101 #[.pointer (some ⟨g,0,none⟩),.agg #[.int .u8 6,.int .u32 set,.slice a m c]] w fun e w'=>e=.returned (.tuple #[qK 6 a (min 1 m) c ⟨true,0,0⟩,.bool true])∧Only (fun _=>False) w w':=by
 have HK:Hid (∀w,Calls Tryz.prog 123 #[.agg #[.int .u8 6,.int .u32 set,.slice a m c]] w fun e w'=>e=.returned (.slice a (min 1 m) c)∧Only (fun _=>False) w w'):=fun w=>jl 6 set a m c w hnc hn ha
 clear hnc hn ha
 generalize min 1 m=m1 at HK ⊢
 have R1:Hid (((((w.alloc (.cells #[.int .u8 6,.int .u32 set,.slice a m c] 117)).alloc (.cells #[.int .u8 0,.slice none 0 0,.bool false,.int .u64 0,.int .u64 0,.int .u64 0,.int .u64 0,.int .u64 0,.int .u64 0,.int .u64 0,.int .u64 0] 171)).alloc (.cells #[.int .u8 6,.slice none 0 0,.bool false,.int .u64 0,.int .u64 0,.int .u64 0,.int .u64 0,.int .u64 0,.int .u64 0,.int .u64 0,.int .u64 0] 171))).heap[w.heap.size+1]?=some (.cells (zF 0) 171 (0,0))):=by rw [oQ];exact (Below.heap_alloc _ _ _ (by simp)).trans (heap_alloc2_new _ _ _)
 have R2:Hid (((((w.alloc (.cells #[.int .u8 6,.int .u32 set,.slice a m c] 117)).alloc (.cells #[.int .u8 0,.slice none 0 0,.bool false,.int .u64 0,.int .u64 0,.int .u64 0,.int .u64 0,.int .u64 0,.int .u64 0,.int .u64 0,.int .u64 0] 171)).alloc (.cells #[.int .u8 6,.slice none 0 0,.bool false,.int .u64 0,.int .u64 0,.int .u64 0,.int .u64 0,.int .u64 0,.int .u64 0,.int .u64 0,.int .u64 0] 171))).heap[w.heap.size+1+1]?=some (.cells (zF 6) 171 (0,0))):=by rw [oQ];exact bS _ _ _ _
 have O0:Hid (Only (fun _=>False) w ((((w.alloc (.cells #[.int .u8 6,.int .u32 set,.slice a m c] 117)).alloc (.cells #[.int .u8 0,.slice none 0 0,.bool false,.int .u64 0,.int .u64 0,.int .u64 0,.int .u64 0,.int .u64 0,.int .u64 0,.int .u64 0,.int .u64 0] 171)).alloc (.cells #[.int .u8 6,.slice none 0 0,.bool false,.int .u64 0,.int .u64 0,.int .u64 0,.int .u64 0,.int .u64 0,.int .u64 0,.int .u64 0,.int .u64 0] 171)))):=(((Only.refl _ _).alloc _).alloc _).alloc _
 go_enter Tryz.func101,Tryz.ntmps101
 go_wp2_with (first |(go_at_call 123;refine (HK.out _).mono ?_;rintro e w1 ⟨rfl,ho1⟩;have k1:=(ho1.block _ (Array.getElem?_eq_some_iff.1 R1.out).1 (fun h=>h)).trans R1.out;have k2:=(ho1.block _ (Array.getElem?_eq_some_iff.1 R2.out).1 (fun h=>h)).trans R2.out;have HN:Hid (((w1.setCell ⟨w.heap.size+1+1,1,none⟩ (.slice a m1 c)).setCell ⟨w.heap.size+1+1,2,none⟩ (.bool true)).heap[w.heap.size+1+1]?=some (.cells (iR 6 a m1 c ⟨true,0,0⟩) 171 (0,0))):=aa (k:=2) (aa (k:=1) k2 (.slice a m1 c)) (.bool true);have xQ:Hid (((w1.setCell ⟨w.heap.size+1+1,1,none⟩ (.slice a m1 c)).setCell ⟨w.heap.size+1+1,2,none⟩ (.bool true)).heap[w.heap.size+1]?=some (.cells (zF 0) 171 (0,0))):=((Below.heap_setCell _ _ _ _ (by simp)).trans ((Below.heap_setCell _ _ _ _ (by simp)).trans k1));have HO:Hid (Only (fun g=>w.heap.size≤g) w ((w1.setCell ⟨w.heap.size+1+1,1,none⟩ (.slice a m1 c)).setCell ⟨w.heap.size+1+1,2,none⟩ (.bool true))):=((((O0.out.trans ho1).mono (S':=fun g=>w.heap.size≤g) (fun _ h=>h.elim)).setCell (p:=⟨w.heap.size+1+1,1,none⟩) (show w.heap.size≤w.heap.size+1+1 by omega) _).setCell (p:=⟨w.heap.size+1+1,2,none⟩) (show w.heap.size≤w.heap.size+1+1 by omega) _);have c1:w1.cell? ⟨w.heap.size+1+1,1,none⟩=some (.slice none 0 0):=ae k2;have c2:w1.cell? ⟨w.heap.size+1+1,2,none⟩=some (.bool false):=ae k2;have f1:=ak k2 1;have f2:=ak k2 2;clear k1 k2 ho1) | refine wpList_load_row rfl 171 _ rfl (w.heap.size+1+1) rfl 171 _ (0,0) _ HN.out Tryz.underlying171 rfl iB ?_ | refine wpList_store_rowTo rfl 171 _ _ rfl rfl (w.heap.size+1) (iR 6 a m1 c ⟨true,0,0⟩) rfl rfl 171 _ xQ.out iB rfl (jk _ _ _ _ _) ?_)
 refine bodyPost_ret (v:=.tuple #[qK 6 a m1 c ⟨true,0,0⟩,.bool true]) (a_ (p:=4) (u:=5) rfl _ _ (w.heap.size+1) 171 (iR 6 a m1 c ⟨true,0,0⟩) (0,0) _ rfl (dP _ _ _ _ _ _ xQ.out) Tryz.underlying171 rfl iB rfl) rfl ⟨rfl,?_⟩
 exact (HO.out.setRow (by omega) _).old (fun _ h=>Or.inl h)
theorem Cb (g cl:Nat) (b nx:Nat→Nat) (fs:Nat) (vL:Value) (em:Nat) (set:Int) (a:Option Addr) (m c:Nat) (w:World) (hP:dN w g cl 200 b nx fs vL em):
  Calls Tryz.prog 101 #[.pointer (some ⟨g,0,none⟩),.agg #[.int .u8 1,.int .u32 set,.slice a m c]] w fun e w'=>e=.returned (.tuple #[.agg (zF 0),.bool false])∧Only (fun _=>False) w w':=by
 have hlt:=hP.lt
 have hlt1:g < w.heap.size+1:=by omega
 have hlt2:g < w.heap.size+1+1:=by omega
 have c1:w.cell? ⟨g,1,none⟩=some (.int .i64 200):=hP.c1
 clear hP
 rw [oQ]
 go_enter Tryz.func101,Tryz.ntmps101
 go_wp2_with fail
 refine bodyPost_ret (v:=.tuple #[.agg #[.int .u8 0,.slice none 0 0,.bool false,.int .u64 0,.int .u64 0,.int .u64 0,.int .u64 0,.int .u64 0,.int .u64 0,.int .u64 0,.int .u64 0],.bool false]) (by simp [results,Tryz.results101,go_sem]) rfl ⟨rfl,?_⟩
 exact (((Only.refl _ _).alloc _).alloc _).alloc _
def jm:List Value→Array Value→Nat→Array Value
 | [],cs,_=>cs
 | v::r,cs,o=>jm r (cs.setIfInBounds o v) (o+1)
theorem wD:∀(vs:List Value) (cs:Array Value) (o:Nat),(jm vs cs o).size=cs.size
 | [],_,_=>rfl
 | v::r,cs,o=>by rw [jm,wD r,Array.size_setIfInBounds]
theorem Ec:∀(vs:List Value) (cs:Array Value) (o j:Nat),o+vs.length≤cs.size→(jm vs cs o)[j]?=if o≤j∧j < o+vs.length then vs[j - o]? else cs[j]?
 | [],cs,o,j,_=>by rw [jm,if_neg (by simp)]
 | v::r,cs,o,j,h=>by
  simp only [List.length_cons] at h ⊢
  rw [jm,Ec r _ (o+1) j (by rw [Array.size_setIfInBounds];omega),Array.getElem?_setIfInBounds]
  by_cases e:o=j
  ·subst e
   rw [if_neg (by omega),if_pos rfl,if_pos (by omega),if_pos (by omega)]
   simp
  ·rw [if_neg e]
   by_cases h1:o+1≤j∧j < o+1+r.length
   ·rw [if_pos h1,if_pos (by omega),show j - o=(j -(o+1))+1 by omega,List.getElem?_cons_succ]
   ·rw [if_neg h1,if_neg (by omega)]
theorem eX {b:Nat} {t:TypeId} {z:Nat × Nat}:∀(vs:List Value) (o:Nat) (w:World) (cs:Array Value),w.heap[b]?=some (.cells cs t z)→(w.setCells b o vs).heap[b]?=some (.cells (jm vs cs o) t z)
 | [],_,_,_,h=>h
 | v::r,o,w,cs,h=>by rw [World.setCells,jm];exact eX r (o+1) _ _ (aa h v)
theorem Only.setCells {S:Nat→Prop} {a:World} {b:Nat} (hb:S b):∀(vs:List Value) (o:Nat) (w:World),Only S a w→Only S a (w.setCells b o vs)
 | [],_,_,h=>h
 | v::r,o,w,h=>by rw [World.setCells];exact Only.setCells hb r (o+1) _ (h.setCell (p:=⟨b,o,none⟩) hb v)
theorem FN {w:World} {b:Nat} {cs:Array Value} {t:TypeId} (h:w.heap[b]?=some (.cells cs t (0,0))) (o n:Nat) (hn:o+n≤cs.size):w.there b o n:=fun j hj=>
 ⟨by rw [ae h,Array.getElem?_eq_getElem (by omega)];rfl,ak h _⟩
theorem wpList_store_midTo {P:Program} {ops:Array Oper} {rest:List Oper} {op:Oper} {a:Act} {w:World} {Q:Exit→Act→World→Prop} (hgd:op.guard=none) (ty:TypeId) (x y:Operand) (ho:op.op=.store ty x y)
  (hd:op.dst=none) (b o:Nat) (cells:Array Value) (hx:a.eval x=.pointer (some ⟨b,o,none⟩)) (hy:a.eval y=.agg cells)
  (ht:w.there b o cells.size) (hi:(P.info? ty).map (·.size)=some cells.size) (h1:cells.all (·.oneCell')=true)
  (h:wpList P ops Q rest a (w.setCells b o cells.toList)):wpList P ops Q (op::rest) a w:=
 wpList_store_mid hgd ty x y ho b o cells hx hy ht hi h1 (by rw [hd];exact h)
theorem wpList_store_midAny {P:Program} {ops:Array Oper} {rest:List Oper} {op:Oper} {a:Act} {w:World} {Q:Exit→Act→World→Prop} (hgd:op.guard=none) (ty:TypeId) (x y:Operand) (ho:op.op=.store ty x y)
  (hd:op.dst=none) (b o:Nat) (cells:Array Value) (hx:a.eval x=.pointer (some ⟨b,o,none⟩)) (hy:a.eval y=.agg cells)
  (t:TypeId) (cs:Array Value) (hb:w.heap[b]?=some (.cells cs t (0,0))) (hs:o+cells.size≤cs.size) (hi:(P.info? ty).map (·.size)=some cells.size) (h1:cells.all (·.oneCell')=true)
  (h:∀w',w'.heap[b]?=some (.cells (jm cells.toList cs o) t (0,0))→Only (·=b) w w'→wpList P ops Q rest a w'):wpList P ops Q (op::rest) a w:=
 wpList_store_midTo hgd ty x y ho hd b o cells hx hy (FN hb _ _ hs) hi h1 (h _ (eX _ _ _ _ hb) (Only.setCells (S:=(·=b)) rfl _ _ _ (Only.refl _ _)))
theorem wpList_store_rowAny {P:Program} {ops:Array Oper} {rest:List Oper} {op:Oper} {a:Act} {w:World} {Q:Exit→Act→World→Prop} (hgd:op.guard=none) (ty:TypeId) (x y:Operand) (ho:op.op=.store ty x y)
  (hd:op.dst=none) (b:Nat) (cells:Array Value) (hx:a.eval x=.pointer (some ⟨b,0,none⟩)) (hy:a.eval y=.agg cells)
  (t:TypeId) (cs:Array Value) (hb:w.heap[b]?=some (.cells cs t (0,0))) (hi:(P.info? ty).map (·.size)=some cells.size) (hs:cs.size=cells.size) (h1:cells.all (·.oneCell')=true)
  (h:∀w',w'.heap[b]?=some (.cells cells t (0,0))→Only (·=b) w w'→wpList P ops Q rest a w'):wpList P ops Q (op::rest) a w:=
 wpList_store_rowTo hgd ty x y ho hd b cells hx hy t cs hb hi hs h1 (h _ (dP _ _ _ _ _ _ hb) ((Only.refl (·=b) _).setRow rfl _))
def gG (cs:Array Value) (o:Nat) (op:Int) (a:Option Addr) (m c:Nat) (x:Au.Nd):Prop:=∀k,k < 11→cs[o+k]?=(iR op a m c x)[k]?
def Same (cs cs':Array Value) (o:Nat):Prop:=cs'.size=cs.size∧∀j,j < o∨o+11≤j→cs'[j]?=cs[j]?
theorem Same.trans {a b c:Array Value} {o:Nat} (h:Same a b o) (k:Same b c o):Same a c o:=⟨k.1.trans h.1,fun j hj=>(k.2 j hj).trans (h.2 j hj)⟩
theorem gG.size {cs:Array Value} {o:Nat} {op:Int} {a:Option Addr} {m c:Nat} {x:Au.Nd} (h:gG cs o op a m c x):o+11≤cs.size:=by
 have:=(Array.getElem?_eq_some_iff.1 ((h 10 (by decide)).trans rfl)).1
 omega
theorem gG.first {cs:Array Value} {o:Nat} {op:Int} {a:Option Addr} {m c:Nat} {x:Au.Nd} (h:gG cs o op a m c x):tV cs (o+3) x.first:=by
 intro k hk
 rw [show o+3+k=o+(3+k) by omega,h (3+k) (by omega)]
 rcases (show k=0∨k=1∨k=2∨k=3 by omega) with rfl | rfl | rfl | rfl <;> rfl
theorem gG.last {cs:Array Value} {o:Nat} {op:Int} {a:Option Addr} {m c:Nat} {x:Au.Nd} (h:gG cs o op a m c x):tV cs (o+7) x.last:=by
 intro k hk
 rw [show o+7+k=o+(7+k) by omega,h (7+k) (by omega)]
 rcases (show k=0∨k=1∨k=2∨k=3 by omega) with rfl | rfl | rfl | rfl <;> rfl
theorem fV {k:Nat} (h:k < 11):k=0∨k=1∨k=2∨k=3∨k=4∨k=5∨k=6∨k=7∨k=8∨k=9∨k=10:=by omega
theorem gG.oU {cs:Array Value} {o:Nat} {op:Int} {a:Option Addr} {m c:Nat} {e:Bool} {f l:Nat} (h:gG cs o op a m c ⟨e,f,l⟩) (e':Bool):gG (cs.setIfInBounds (o+2) (.bool e')) o op a m c ⟨e',f,l⟩∧Same cs (cs.setIfInBounds (o+2) (.bool e')) o:=by
 have hs:=h.size
 refine⟨fun k hk=>?_,by simp,fun j hj=>?_⟩
 ·rw [Array.getElem?_setIfInBounds]
  by_cases e2:o+2=o+k
  ·rw [if_pos e2,if_pos (by omega)]
   obtain rfl:k=2:=by omega
   rfl
  ·rw [if_neg e2,h k hk]
   rcases fV hk with rfl | rfl | rfl | rfl | rfl | rfl | rfl | rfl | rfl | rfl | rfl <;> first | rfl | omega
 ·rw [Array.getElem?_setIfInBounds,if_neg (by omega)]
theorem gG.Ed {cs:Array Value} {o:Nat} {op:Int} {a:Option Addr} {m c:Nat} {x:Au.Nd} (h:gG cs o op a m c x) (a':Option Addr) (m' c':Nat):gG (cs.setIfInBounds (o+1) (.slice a' m' c')) o op a' m' c' x∧Same cs (cs.setIfInBounds (o+1) (.slice a' m' c')) o:=by
 have hs:=h.size
 refine⟨fun k hk=>?_,by simp,fun j hj=>?_⟩
 ·rw [Array.getElem?_setIfInBounds]
  by_cases e2:o+1=o+k
  ·rw [if_pos e2,if_pos (by omega)]
   obtain rfl:k=1:=by omega
   rfl
  ·rw [if_neg e2,h k hk]
   rcases fV hk with rfl | rfl | rfl | rfl | rfl | rfl | rfl | rfl | rfl | rfl | rfl <;> first | rfl | omega
 ·rw [Array.getElem?_setIfInBounds,if_neg (by omega)]
theorem gG.zy {cs:Array Value} {o:Nat} {op:Int} {a:Option Addr} {m c:Nat} {e:Bool} {f l:Nat} (h:gG cs o op a m c ⟨e,f,l⟩) (S:Nat):gG (mG cs (o+3) S 4) o op a m c ⟨e,S,l⟩∧Same cs (mG cs (o+3) S 4) o:=by
 have hs:=h.size
 refine⟨fun k hk=>?_,by rw [oK],fun j hj=>?_⟩
 ·rw [kv _ _ _ _ _ (by omega)]
  by_cases e2:o+3≤o+k∧o+k < o+3+4
  ·rw [if_pos e2]
   rcases fV hk with rfl | rfl | rfl | rfl | rfl | rfl | rfl | rfl | rfl | rfl | rfl <;> first | omega |(rw [show ∀q,o+q -(o+3)=q - 3 by omega];rfl)
  ·rw [if_neg e2,h k hk]
   rcases fV hk with rfl | rfl | rfl | rfl | rfl | rfl | rfl | rfl | rfl | rfl | rfl <;> first | rfl | omega
 ·rw [kv _ _ _ _ _ (by omega),if_neg (by omega)]
theorem gG.oV {cs:Array Value} {o:Nat} {op:Int} {a:Option Addr} {m c:Nat} {e:Bool} {f l:Nat} (h:gG cs o op a m c ⟨e,f,l⟩) (S:Nat):gG (mG cs (o+7) S 4) o op a m c ⟨e,f,S⟩∧Same cs (mG cs (o+7) S 4) o:=by
 have hs:=h.size
 refine⟨fun k hk=>?_,by rw [oK],fun j hj=>?_⟩
 ·rw [kv _ _ _ _ _ (by omega)]
  by_cases e2:o+7≤o+k∧o+k < o+7+4
  ·rw [if_pos e2]
   rcases fV hk with rfl | rfl | rfl | rfl | rfl | rfl | rfl | rfl | rfl | rfl | rfl <;> first | omega |(rw [show ∀q,o+q -(o+7)=q - 7 by omega];rfl)
  ·rw [if_neg e2,h k hk]
   rcases fV hk with rfl | rfl | rfl | rfl | rfl | rfl | rfl | rfl | rfl | rfl | rfl <;> first | rfl | omega
 ·rw [kv _ _ _ _ _ (by omega),if_neg (by omega)]
theorem QO (op:Int) (a:Option Addr) (m c:Nat) (x y:Au.Nd):jm (dO x).toList (iR op a m c y) 2=iR op a m c x:=by simp [jm,dO,iR]
theorem QP (g cl n:Nat) (b nx:Nat→Nat) (fs:Nat) (vL:Value) (em:Nat) (set:Int) (a:Option Addr) (m c:Nat) (w:World) (hP:dN w g cl n b nx fs vL em) (hn:n < 200) (hcl:cl≤24) (hs0:0≤set) (hs1:set < 4294967296):
  Calls Tryz.prog 101 #[.pointer (some ⟨g,0,none⟩),.agg #[.int .u8 1,.int .u32 set,.slice a m c]] w fun e w'=>e=.returned (.tuple #[qK 1 none 0 0 ⟨false,2 ^ n,2 ^ n⟩,.bool true])∧dN w' g cl (n+1) (Ea b set n cl) nx fs vL em∧Only (·=g) w w':=by
 have hlt:=hP.lt
 have hlt1:g < w.heap.size+1:=by omega
 have hlt2:g < w.heap.size+1+1:=by omega
 have HP:=zH hP
 have c1:=hP.c1
 have q:((n:Int)==200)=false:=by simp;omega
 clear hP
 have R1:Hid (((((w.alloc (.cells #[.int .u8 1,.int .u32 set,.slice a m c] 117)).alloc (.cells #[.int .u8 0,.slice none 0 0,.bool false,.int .u64 0,.int .u64 0,.int .u64 0,.int .u64 0,.int .u64 0,.int .u64 0,.int .u64 0,.int .u64 0] 171)).alloc (.cells #[.int .u8 1,.slice none 0 0,.bool false,.int .u64 0,.int .u64 0,.int .u64 0,.int .u64 0,.int .u64 0,.int .u64 0,.int .u64 0,.int .u64 0] 171))).heap[w.heap.size+1]?=some (.cells (zF 0) 171 (0,0))):=by rw [oQ];exact (Below.heap_alloc _ _ _ (by simp)).trans (heap_alloc2_new _ _ _)
 have R2:Hid (((((w.alloc (.cells #[.int .u8 1,.int .u32 set,.slice a m c] 117)).alloc (.cells #[.int .u8 0,.slice none 0 0,.bool false,.int .u64 0,.int .u64 0,.int .u64 0,.int .u64 0,.int .u64 0,.int .u64 0,.int .u64 0,.int .u64 0] 171)).alloc (.cells #[.int .u8 1,.slice none 0 0,.bool false,.int .u64 0,.int .u64 0,.int .u64 0,.int .u64 0,.int .u64 0,.int .u64 0,.int .u64 0,.int .u64 0] 171))).heap[w.heap.size+1+1]?=some (.cells (zF 1) 171 (0,0))):=by rw [oQ];exact bS _ _ _ _
 have O0:Hid (Only (fun _=>False) w ((((w.alloc (.cells #[.int .u8 1,.int .u32 set,.slice a m c] 117)).alloc (.cells #[.int .u8 0,.slice none 0 0,.bool false,.int .u64 0,.int .u64 0,.int .u64 0,.int .u64 0,.int .u64 0,.int .u64 0,.int .u64 0,.int .u64 0] 171)).alloc (.cells #[.int .u8 1,.slice none 0 0,.bool false,.int .u64 0,.int .u64 0,.int .u64 0,.int .u64 0,.int .u64 0,.int .u64 0,.int .u64 0,.int .u64 0] 171)))):=(((Only.refl _ _).alloc _).alloc _).alloc _
 go_enter Tryz.func101,Tryz.ntmps101
 go_wp2_with fail
 go_at_call 122
 refine (M7 g cl n b nx fs vL em set _ (HP.out.only O0.out (fun h=>h)) hn hcl hs0 hs1).mono ?_
 rintro e w1 ⟨rfl,hp1,ho1⟩
 have fJ:=zH hp1
 have bu:Hid (Only (fun h=>h=g∨w.heap.size≤h) w w1):=(O0.out.mono (fun _ h=>h.elim)).trans (ho1.mono (fun _ h=>Or.inl h))
 have k1:=(ho1.block _ (Array.getElem?_eq_some_iff.1 R1.out).1 (by omega)).trans R1.out
 have k2:=(ho1.block _ (Array.getElem?_eq_some_iff.1 R2.out).1 (by omega)).trans R2.out
 have K1:=zH k1
 have K2:=zH k2
 clear k1 k2 ho1 hp1 R1 R2 O0 HP
 have hpt:qJ ⟨false,2 ^ n,2 ^ n⟩=.agg (dO ⟨false,2 ^ n,2 ^ n⟩):=rfl
 rw [hpt]
 clear hpt
 obtain⟨X,hX⟩:∃X,X=dO ⟨false,2 ^ n,2 ^ n⟩:=⟨_,rfl⟩
 obtain⟨Y,hY⟩:∃Y,Y=iR 1 none 0 0 ⟨false,2 ^ n,2 ^ n⟩:=⟨_,rfl⟩
 have HY:Hid (.agg Y=qK 1 none 0 0 ⟨false,2 ^ n,2 ^ n⟩∧jm X.toList (zF 1) 2=Y∧X.size=9∧X.all (·.oneCell')=true∧Y.size=11∧Y.all (·.oneCell')=true):=by
  subst hX hY
  exact⟨rfl,QO _ _ _ _ _ _,rfl,tu _,rfl,jk _ _ _ _ _⟩
 rw [←hX]
 clear hX hY
 have sX:Hid ((Tryz.prog.info? 143).map (·.size)=some X.size):=by rw [HY.out.2.2.1];exact oO
 have sY:Hid ((Tryz.prog.info? 171).map (·.size)=some Y.size):=by rw [HY.out.2.2.2.2.1];exact iB
 go_wp2_with (first |(refine wpList_store_midAny rfl 143 _ _ rfl rfl (w.heap.size+1+1) 2 X rfl rfl 171 _ K2.out (by rw [HY.out.2.2.1];decide) sX.out HY.out.2.2.2.1 ?_;intro w2 h2 o2;rw [HY.out.2.1] at h2;have H2:=zH h2;have O2:=zH o2;clear h2 o2;have xQ:Hid (w2.heap[w.heap.size+1]?=some (.cells (zF 0) 171 (0,0))):=(O2.out.block _ (Array.getElem?_eq_some_iff.1 K1.out).1 (by omega)).trans K1.out) | refine wpList_load_row rfl 171 _ rfl (w.heap.size+1+1) rfl 171 _ (0,0) _ H2.out Tryz.underlying171 rfl sY.out ?_ |(refine wpList_store_rowAny rfl 171 _ _ rfl rfl (w.heap.size+1) Y rfl rfl 171 _ xQ.out sY.out (by rw [HY.out.2.2.2.2.1];rfl) HY.out.2.2.2.2.2 ?_;intro w3 h3 o3;have H3:=zH h3;have O3:=zH o3;clear h3 o3))
 have hO:Only (fun h=>h=g∨w.heap.size≤h) w w3:=(bu.out.trans (O2.out.mono (fun _ h=>by omega))).trans (O3.out.mono (fun _ h=>by omega))
 refine bodyPost_ret (v:=.tuple #[qK 1 none 0 0 ⟨false,2 ^ n,2 ^ n⟩,.bool true]) (by rw [←HY.out.1];exact a_ (p:=4) (u:=5) rfl _ _ (w.heap.size+1) 171 Y (0,0) _ rfl H3.out Tryz.underlying171 rfl sY.out rfl) rfl ⟨rfl,(fJ.out.only O2.out (by omega)).only O3.out (by omega),hO.old (fun _ h=>h.symm)⟩
end Go.Proofs.YtdlabakleldgaaaGreatDoor
