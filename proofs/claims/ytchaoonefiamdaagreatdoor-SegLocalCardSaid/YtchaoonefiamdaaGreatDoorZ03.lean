/- End Beg Beg2 Mid Beg1 -/
import Derived.Test.YtchaoonefiamdaaGreatDoorZ02
import Derived.Deep.MidRow
namespace Go.Proofs.YtchaoonefiamdaaGreatDoor
open Go.RowKit Go.Maps
set_option linter.unusedVariables false
set_option linter.unusedSimpArgs false
theorem frame_at {w:World} {g:Nat} {op:Int} {a:Option Addr} {m c:Nat} {x:Au.Nd} {t:TypeId} (h:w.heap[g]?=some (.cells (fmC op a m c x) t (0,0))) (k:Nat):w.cell? ⟨g,k,none⟩=(fmC op a m c x)[k]?:=cell_blk h
def zPt:Array Value:=#[.bool false,.int .u64 0,.int .u64 0,.int .u64 0,.int .u64 0,.int .u64 0,.int .u64 0,.int .u64 0,.int .u64 0]
set_option maxRecDepth 100000 in
set_option maxHeartbeats 4000000 in
theorem end_link (g cl n:Nat) (b nx:Nat→Nat) (fs:Nat) (vL:Value) (em:Nat) (op:Int) (a:Option Addr) (m c:Nat) (x:Au.Nd) (w:World) (hP:Plb w g cl n b nx fs vL em) (hn:n≤200) (hx:x.first < 2 ^ 256) (hop:op=4∨op=5) :
    Calls Tryz.prog 77 #[.pointer (some ⟨g,0,none⟩),fmV op a m c x] w fun e w'=>e=.returned (ptV x)∧Plb w' g cl n b (chn nx x.last x.first n) fs vL em∧Only (·=g) w w':=by
  obtain ⟨xe,xf,xl⟩:=x
  have hlt:=hP.lt
  have HP:Hid (Plb w g cl n b nx fs vL em):=hP
  clear hP
  have HX:Hid (xf < 2 ^ 256):=hx
  clear hx
  have B0:Hid (((w.alloc (.cells (fmC op a m c ⟨xe,xf,xl⟩) 144)).alloc (.cells zPt 113)).heap[w.heap.size]?=some (.cells (fmC op a m c ⟨xe,xf,xl⟩) 144 (0,0))):=(Below.heap_alloc _ _ _ (by simp)).trans (heap_alloc_new _ _)
  have B1:Hid (((w.alloc (.cells (fmC op a m c ⟨xe,xf,xl⟩) 144)).alloc (.cells zPt 113)).heap[w.heap.size+1]?=some (.cells zPt 113 (0,0))):=heap_alloc2_new _ _ _
  have O0:Hid (Only (fun _=>False) w ((w.alloc (.cells (fmC op a m c ⟨xe,xf,xl⟩) 144)).alloc (.cells zPt 113))):=((Only.refl _ _).alloc _).alloc _
  unfold fmV fmC
  rcases hop with rfl | rfl
  all_goals
    go_enter Tryz.func77,Tryz.ntmps77
    go_wp2_with (first | (go_at_call 98;refine (chain_any g cl n b nx fs vL em xl xf _ (HP.out.only O0.out (fun h=>h)) hn HX.out).mono ?_;rintro e w1 ⟨rfl,hp1,ho1⟩;have HP1:Hid (Plb w1 g cl n b (chn nx xl xf n) fs vL em):=hp1;have HO1:Hid (Only (·=g) w w1):=(O0.out.mono (fun _ h=>h.elim)).trans ho1;have r0:=(ho1.block _ (Array.getElem?_eq_some_iff.1 B0.out).1 (by omega)).trans B0.out;have r1:=(ho1.block _ (Array.getElem?_eq_some_iff.1 B1.out).1 (by omega)).trans B1.out;have R1:Hid (w1.heap[w.heap.size+1]?=some (.cells zPt 113 (0,0))):=r1;have d2:=frame_at r0 2;have d3:=frame_at r0 3;have d4:=frame_at r0 4;have d5:=frame_at r0 5;have d6:=frame_at r0 6;have d7:=frame_at r0 7;have d8:=frame_at r0 8;have d9:=frame_at r0 9;have d10:=frame_at r0 10;simp only [fmC,List.getElem?_toArray,List.getElem?_cons_succ,List.getElem?_cons_zero] at d2 d3 d4 d5 d6 d7 d8 d9 d10;clear r0 r1 hp1 ho1) | refine wpList_store_rowTo rfl 113 _ _ rfl rfl (w.heap.size+1) (ptC ⟨xe,xf,xl⟩) rfl rfl 113 _ R1.out sz109 rfl (ptC_one _) ?_)
    refine bodyPost_ret (v:=ptV ⟨xe,xf,xl⟩) (results_cell_row rfl _ _ (w.heap.size+1) 113 (ptC ⟨xe,xf,xl⟩) (0,0) _ rfl (heap_setRow _ _ _ _ _ _ R1.out) Tryz.underlying113 rfl sz109) rfl ⟨rfl,?_,?_⟩
    · exact (setRow_other _ _ (by omega)).trans HP1.out
    · exact Only.old (P:=fun h=>h=g∨w.heap.size≤h) ((HO1.out.mono (fun _ h=>Or.inl h)).setRow (Or.inr (by omega)) _) (fun _ h=>h.symm)
set_option maxRecDepth 100000 in
set_option maxHeartbeats 4000000 in
theorem end_plain (g:Nat) (op:Int) (a:Option Addr) (m c:Nat) (x:Au.Nd) (w:World) (h4:op≠4) (h5:op≠5) :
    Calls Tryz.prog 77 #[.pointer (some ⟨g,0,none⟩),fmV op a m c x] w fun e w'=>e=.returned (ptV x)∧Only (fun _=>False) w w':=by
  obtain ⟨xe,xf,xl⟩:=x
  have q4:(op == 4)=false:=by simpa using h4
  have q5:(op == 5)=false:=by simpa using h5
  clear h4 h5
  unfold fmV fmC
  go_enter Tryz.func77,Tryz.ntmps77
  go_wp2_with fail
  refine bodyPost_ret (v:=ptV ⟨xe,xf,xl⟩) (by simp [results,Tryz.results77,go_sem,ptV,ptC]) rfl ⟨rfl,?_⟩
  exact ((Only.refl _ _).alloc _).alloc _
end Go.Proofs.YtchaoonefiamdaaGreatDoor
namespace Go.Proofs.YtchaoonefiamdaaGreatDoor
open Go.RowKit Go.Maps
set_option linter.unusedVariables false
set_option linter.unusedSimpArgs false
theorem results_row1 {P:Program} {fn:Func} {p u:Tmp} {ty:TypeId} (h:fn.results=#[.cell p ty,.tmp u]) (tmps:Array Value) (w:World) (g:Nat) (t:TypeId) (cs:Array Value) (fr:Nat × Nat) (d:TypeDesc)
    (hp:tmps.getD p undef=.pointer (some ⟨g,0,none⟩)) (hg:w.heap[g]?=some (.cells cs t fr)) (hu:P.underlying ty=some d) (hd:(match d with | .struct _ | .array _ _=>true | _=>false)=true) (hi:(P.info? ty).map (·.size)=some cs.size)
    {y:Value} (hy:tmps.getD u undef=y):(results fn tmps).run P w=.ok (.tuple #[.agg cs,y]) w:=by
  have hp':tmps[p]?.getD undef=.pointer (some ⟨g,0,none⟩):=by simpa using hp
  have hy':tmps[u]?.getD undef=y:=by simpa using hy
  simp [results,h,hp',hy',asAddr,run_loadVar_row w g t ty cs fr d hg hu hd hi]
set_option maxRecDepth 100000 in
set_option maxHeartbeats 4000000 in
theorem begin2 (g:Nat) (set:Int) (a:Option Addr) (m c:Nat) (w:World) :
    Calls Tryz.prog 76 #[.pointer (some ⟨g,0,none⟩),.agg #[.int .u8 2,.int .u32 set,.slice a m c]] w fun e w'=>e=.returned (.tuple #[fmV 2 a m c ⟨true,0,0⟩,.bool true])∧Only (fun _=>False) w w':=by
  go_enter Tryz.func76,Tryz.ntmps76
  go_wp2_with fail
  refine bodyPost_ret (v:=.tuple #[fmV 2 a m c ⟨true,0,0⟩,.bool true]) (by simp [results,Tryz.results76,go_sem,fmV,fmC,wd_zero]) rfl ⟨rfl,?_⟩
  exact (((Only.refl _ _).alloc _).alloc _).alloc _
set_option maxRecDepth 100000 in
set_option maxHeartbeats 4000000 in
theorem begin3 (g:Nat) (set:Int) (a:Option Addr) (m c:Nat) (w:World) :
    Calls Tryz.prog 76 #[.pointer (some ⟨g,0,none⟩),.agg #[.int .u8 3,.int .u32 set,.slice a m c]] w fun e w'=>e=.returned (.tuple #[fmV 3 a m c ⟨false,0,0⟩,.bool true])∧Only (fun _=>False) w w':=by
  go_enter Tryz.func76,Tryz.ntmps76
  go_wp2_with fail
  refine bodyPost_ret (v:=.tuple #[fmV 3 a m c ⟨false,0,0⟩,.bool true]) (by simp [results,Tryz.results76,go_sem,fmV,fmC,wd_zero]) rfl ⟨rfl,?_⟩
  exact (((Only.refl _ _).alloc _).alloc _).alloc _
set_option maxRecDepth 100000 in
set_option maxHeartbeats 4000000 in
theorem beginO (g:Nat) (op:Int) (set:Int) (a:Option Addr) (m c:Nat) (w:World) (h:op < 1∨6 < op) :
    Calls Tryz.prog 76 #[.pointer (some ⟨g,0,none⟩),.agg #[.int .u8 op,.int .u32 set,.slice a m c]] w fun e w'=>e=.returned (.tuple #[fmV op none 0 0 ⟨true,0,0⟩,.bool true])∧Only (fun _=>False) w w':=by
  have q1:(op == 1)=false:=by simp;omega
  have q2:(op == 2)=false:=by simp;omega
  have q3:(op == 3)=false:=by simp;omega
  have q4:(op == 4)=false:=by simp;omega
  have q5:(op == 5)=false:=by simp;omega
  have q6:(op == 6)=false:=by simp;omega
  clear h
  go_enter Tryz.func76,Tryz.ntmps76
  go_wp2_with fail
  refine bodyPost_ret (v:=.tuple #[fmV op none 0 0 ⟨true,0,0⟩,.bool true]) (by simp [results,Tryz.results76,go_sem,fmV,fmC,wd_zero]) rfl ⟨rfl,?_⟩
  exact (((Only.refl _ _).alloc _).alloc _).alloc _
end Go.Proofs.YtchaoonefiamdaaGreatDoor
namespace Go.Proofs.YtchaoonefiamdaaGreatDoor
open Go.RowKit Go.Maps
set_option linter.unusedVariables false
set_option linter.unusedSimpArgs false
def zF (op:Int):Array Value:=fmC op none 0 0 ⟨false,0,0⟩
theorem zF_eq (op:Int):zF op=#[.int .u8 op,.slice none 0 0,.bool false,.int .u64 0,.int .u64 0,.int .u64 0,.int .u64 0,.int .u64 0,.int .u64 0,.int .u64 0,.int .u64 0]:=by simp [zF,fmC,wd_zero]
theorem heap_alloc3_new (w:World) (o1 o2 o3:Obj):(((w.alloc o1).alloc o2).alloc o3).heap[w.heap.size+1+1]?=some o3:=by
  have e:w.heap.size+1+1=((w.alloc o1).alloc o2).heap.size:=by simp
  rw [e]
  exact heap_alloc_new _ _
set_option maxRecDepth 100000 in
set_option maxHeartbeats 4000000 in
theorem begin4 (g:Nat) (set:Int) (a:Option Addr) (m c:Nat) (w:World) (hnc:m≤c) (hn:m≤maxLen) (ha:0 < m→∃ b off,a=some ⟨b,off,none⟩) :
    Calls Tryz.prog 76 #[.pointer (some ⟨g,0,none⟩),.agg #[.int .u8 4,.int .u32 set,.slice a m c]] w fun e w'=>e=.returned (.tuple #[fmV 4 a (min 1 m) c ⟨true,0,0⟩,.bool true])∧Only (fun _=>False) w w':=by
  have HK:Hid (∀ w,Calls Tryz.prog 97 #[.agg #[.int .u8 4,.int .u32 set,.slice a m c]] w fun e w'=>e=.returned (.slice a (min 1 m) c)∧Only (fun _=>False) w w'):=fun w=>firstKid_any 4 set a m c w hnc hn ha
  clear hnc hn ha
  generalize min 1 m=m1 at HK ⊢
  have R1:Hid (((((w.alloc (.cells #[.int .u8 4,.int .u32 set,.slice a m c] 88)).alloc (.cells #[.int .u8 0,.slice none 0 0,.bool false,.int .u64 0,.int .u64 0,.int .u64 0,.int .u64 0,.int .u64 0,.int .u64 0,.int .u64 0,.int .u64 0] 144)).alloc (.cells #[.int .u8 4,.slice none 0 0,.bool false,.int .u64 0,.int .u64 0,.int .u64 0,.int .u64 0,.int .u64 0,.int .u64 0,.int .u64 0,.int .u64 0] 144))).heap[w.heap.size+1]?=some (.cells (zF 0) 144 (0,0))):=by rw [zF_eq];exact (Below.heap_alloc _ _ _ (by simp)).trans (heap_alloc2_new _ _ _)
  have R2:Hid (((((w.alloc (.cells #[.int .u8 4,.int .u32 set,.slice a m c] 88)).alloc (.cells #[.int .u8 0,.slice none 0 0,.bool false,.int .u64 0,.int .u64 0,.int .u64 0,.int .u64 0,.int .u64 0,.int .u64 0,.int .u64 0,.int .u64 0] 144)).alloc (.cells #[.int .u8 4,.slice none 0 0,.bool false,.int .u64 0,.int .u64 0,.int .u64 0,.int .u64 0,.int .u64 0,.int .u64 0,.int .u64 0,.int .u64 0] 144))).heap[w.heap.size+1+1]?=some (.cells (zF 4) 144 (0,0))):=by rw [zF_eq];exact heap_alloc3_new _ _ _ _
  have O0:Hid (Only (fun _=>False) w ((((w.alloc (.cells #[.int .u8 4,.int .u32 set,.slice a m c] 88)).alloc (.cells #[.int .u8 0,.slice none 0 0,.bool false,.int .u64 0,.int .u64 0,.int .u64 0,.int .u64 0,.int .u64 0,.int .u64 0,.int .u64 0,.int .u64 0] 144)).alloc (.cells #[.int .u8 4,.slice none 0 0,.bool false,.int .u64 0,.int .u64 0,.int .u64 0,.int .u64 0,.int .u64 0,.int .u64 0,.int .u64 0,.int .u64 0] 144)))):=(((Only.refl _ _).alloc _).alloc _).alloc _
  go_enter Tryz.func76,Tryz.ntmps76
  go_wp2_with (first | (go_at_call 97;refine (HK.out _).mono ?_;rintro e w1 ⟨rfl,ho1⟩;have k1:=(ho1.block _ (Array.getElem?_eq_some_iff.1 R1.out).1 (fun h=>h)).trans R1.out;have k2:=(ho1.block _ (Array.getElem?_eq_some_iff.1 R2.out).1 (fun h=>h)).trans R2.out;have HN:Hid (((w1.setCell ⟨w.heap.size+1+1,1,none⟩ (.slice a m1 c)).setCell ⟨w.heap.size+1+1,2,none⟩ (.bool true)).heap[w.heap.size+1+1]?=some (.cells (fmC 4 a m1 c ⟨true,0,0⟩) 144 (0,0))):=heap_setCell_at (k:=2) (heap_setCell_at (k:=1) k2 (.slice a m1 c)) (.bool true);have HN1:Hid (((w1.setCell ⟨w.heap.size+1+1,1,none⟩ (.slice a m1 c)).setCell ⟨w.heap.size+1+1,2,none⟩ (.bool true)).heap[w.heap.size+1]?=some (.cells (zF 0) 144 (0,0))):=((Below.heap_setCell _ _ _ _ (by simp)).trans ((Below.heap_setCell _ _ _ _ (by simp)).trans k1));have HO:Hid (Only (fun g=>w.heap.size≤g) w ((w1.setCell ⟨w.heap.size+1+1,1,none⟩ (.slice a m1 c)).setCell ⟨w.heap.size+1+1,2,none⟩ (.bool true))):=((((O0.out.trans ho1).mono (S':=fun g=>w.heap.size≤g) (fun _ h=>h.elim)).setCell (p:=⟨w.heap.size+1+1,1,none⟩) (show w.heap.size≤w.heap.size+1+1 by omega) _).setCell (p:=⟨w.heap.size+1+1,2,none⟩) (show w.heap.size≤w.heap.size+1+1 by omega) _);have c1:w1.cell? ⟨w.heap.size+1+1,1,none⟩=some (.slice none 0 0):=cell_blk k2;have c2:w1.cell? ⟨w.heap.size+1+1,2,none⟩=some (.bool false):=cell_blk k2;have f1:=fz_blk k2 1;have f2:=fz_blk k2 2;clear k1 k2 ho1) | refine wpList_load_row rfl 144 _ rfl (w.heap.size+1+1) rfl 144 _ (0,0) _ HN.out Tryz.underlying144 rfl sz136 ?_ | refine wpList_store_rowTo rfl 144 _ _ rfl rfl (w.heap.size+1) (fmC 4 a m1 c ⟨true,0,0⟩) rfl rfl 144 _ HN1.out sz136 rfl (fmC_one _ _ _ _ _) ?_)
  refine bodyPost_ret (v:=.tuple #[fmV 4 a m1 c ⟨true,0,0⟩,.bool true]) (results_row1 (p:=4) (u:=5) rfl _ _ (w.heap.size+1) 144 (fmC 4 a m1 c ⟨true,0,0⟩) (0,0) _ rfl (heap_setRow _ _ _ _ _ _ HN1.out) Tryz.underlying144 rfl sz136 rfl) rfl ⟨rfl,?_⟩
  exact (HO.out.setRow (by omega) _).old (fun _ h=>Or.inl h)
set_option maxRecDepth 100000 in
set_option maxHeartbeats 4000000 in
theorem begin5 (g:Nat) (set:Int) (a:Option Addr) (m c:Nat) (w:World) (hnc:m≤c) (hn:m≤maxLen) (ha:0 < m→∃ b off,a=some ⟨b,off,none⟩) :
    Calls Tryz.prog 76 #[.pointer (some ⟨g,0,none⟩),.agg #[.int .u8 5,.int .u32 set,.slice a m c]] w fun e w'=>e=.returned (.tuple #[fmV 5 a (min 1 m) c ⟨false,0,0⟩,.bool true])∧Only (fun _=>False) w w':=by
  have HK:Hid (∀ w,Calls Tryz.prog 97 #[.agg #[.int .u8 5,.int .u32 set,.slice a m c]] w fun e w'=>e=.returned (.slice a (min 1 m) c)∧Only (fun _=>False) w w'):=fun w=>firstKid_any 5 set a m c w hnc hn ha
  clear hnc hn ha
  generalize min 1 m=m1 at HK ⊢
  have R1:Hid (((((w.alloc (.cells #[.int .u8 5,.int .u32 set,.slice a m c] 88)).alloc (.cells #[.int .u8 0,.slice none 0 0,.bool false,.int .u64 0,.int .u64 0,.int .u64 0,.int .u64 0,.int .u64 0,.int .u64 0,.int .u64 0,.int .u64 0] 144)).alloc (.cells #[.int .u8 5,.slice none 0 0,.bool false,.int .u64 0,.int .u64 0,.int .u64 0,.int .u64 0,.int .u64 0,.int .u64 0,.int .u64 0,.int .u64 0] 144))).heap[w.heap.size+1]?=some (.cells (zF 0) 144 (0,0))):=by rw [zF_eq];exact (Below.heap_alloc _ _ _ (by simp)).trans (heap_alloc2_new _ _ _)
  have R2:Hid (((((w.alloc (.cells #[.int .u8 5,.int .u32 set,.slice a m c] 88)).alloc (.cells #[.int .u8 0,.slice none 0 0,.bool false,.int .u64 0,.int .u64 0,.int .u64 0,.int .u64 0,.int .u64 0,.int .u64 0,.int .u64 0,.int .u64 0] 144)).alloc (.cells #[.int .u8 5,.slice none 0 0,.bool false,.int .u64 0,.int .u64 0,.int .u64 0,.int .u64 0,.int .u64 0,.int .u64 0,.int .u64 0,.int .u64 0] 144))).heap[w.heap.size+1+1]?=some (.cells (zF 5) 144 (0,0))):=by rw [zF_eq];exact heap_alloc3_new _ _ _ _
  have O0:Hid (Only (fun _=>False) w ((((w.alloc (.cells #[.int .u8 5,.int .u32 set,.slice a m c] 88)).alloc (.cells #[.int .u8 0,.slice none 0 0,.bool false,.int .u64 0,.int .u64 0,.int .u64 0,.int .u64 0,.int .u64 0,.int .u64 0,.int .u64 0,.int .u64 0] 144)).alloc (.cells #[.int .u8 5,.slice none 0 0,.bool false,.int .u64 0,.int .u64 0,.int .u64 0,.int .u64 0,.int .u64 0,.int .u64 0,.int .u64 0,.int .u64 0] 144)))):=(((Only.refl _ _).alloc _).alloc _).alloc _
  go_enter Tryz.func76,Tryz.ntmps76
  go_wp2_with (first | (go_at_call 97;refine (HK.out _).mono ?_;rintro e w1 ⟨rfl,ho1⟩;have k1:=(ho1.block _ (Array.getElem?_eq_some_iff.1 R1.out).1 (fun h=>h)).trans R1.out;have k2:=(ho1.block _ (Array.getElem?_eq_some_iff.1 R2.out).1 (fun h=>h)).trans R2.out;have HN:Hid ((w1.setCell ⟨w.heap.size+1+1,1,none⟩ (.slice a m1 c)).heap[w.heap.size+1+1]?=some (.cells (fmC 5 a m1 c ⟨false,0,0⟩) 144 (0,0))):=heap_setCell_at (k:=1) k2 (.slice a m1 c);have HN1:Hid ((w1.setCell ⟨w.heap.size+1+1,1,none⟩ (.slice a m1 c)).heap[w.heap.size+1]?=some (.cells (zF 0) 144 (0,0))):=((Below.heap_setCell _ _ _ _ (by simp)).trans k1);have HO:Hid (Only (fun g=>w.heap.size≤g) w (w1.setCell ⟨w.heap.size+1+1,1,none⟩ (.slice a m1 c))):=(((O0.out.trans ho1).mono (S':=fun g=>w.heap.size≤g) (fun _ h=>h.elim)).setCell (p:=⟨w.heap.size+1+1,1,none⟩) (show w.heap.size≤w.heap.size+1+1 by omega) _);have c1:w1.cell? ⟨w.heap.size+1+1,1,none⟩=some (.slice none 0 0):=cell_blk k2;have c2:w1.cell? ⟨w.heap.size+1+1,2,none⟩=some (.bool false):=cell_blk k2;have f1:=fz_blk k2 1;have f2:=fz_blk k2 2;clear k1 k2 ho1) | refine wpList_load_row rfl 144 _ rfl (w.heap.size+1+1) rfl 144 _ (0,0) _ HN.out Tryz.underlying144 rfl sz136 ?_ | refine wpList_store_rowTo rfl 144 _ _ rfl rfl (w.heap.size+1) (fmC 5 a m1 c ⟨false,0,0⟩) rfl rfl 144 _ HN1.out sz136 rfl (fmC_one _ _ _ _ _) ?_)
  refine bodyPost_ret (v:=.tuple #[fmV 5 a m1 c ⟨false,0,0⟩,.bool true]) (results_row1 (p:=4) (u:=5) rfl _ _ (w.heap.size+1) 144 (fmC 5 a m1 c ⟨false,0,0⟩) (0,0) _ rfl (heap_setRow _ _ _ _ _ _ HN1.out) Tryz.underlying144 rfl sz136 rfl) rfl ⟨rfl,?_⟩
  exact (HO.out.setRow (by omega) _).old (fun _ h=>Or.inl h)
set_option maxRecDepth 100000 in
set_option maxHeartbeats 4000000 in
theorem begin6 (g:Nat) (set:Int) (a:Option Addr) (m c:Nat) (w:World) (hnc:m≤c) (hn:m≤maxLen) (ha:0 < m→∃ b off,a=some ⟨b,off,none⟩) :
    Calls Tryz.prog 76 #[.pointer (some ⟨g,0,none⟩),.agg #[.int .u8 6,.int .u32 set,.slice a m c]] w fun e w'=>e=.returned (.tuple #[fmV 6 a (min 1 m) c ⟨true,0,0⟩,.bool true])∧Only (fun _=>False) w w':=by
  have HK:Hid (∀ w,Calls Tryz.prog 97 #[.agg #[.int .u8 6,.int .u32 set,.slice a m c]] w fun e w'=>e=.returned (.slice a (min 1 m) c)∧Only (fun _=>False) w w'):=fun w=>firstKid_any 6 set a m c w hnc hn ha
  clear hnc hn ha
  generalize min 1 m=m1 at HK ⊢
  have R1:Hid (((((w.alloc (.cells #[.int .u8 6,.int .u32 set,.slice a m c] 88)).alloc (.cells #[.int .u8 0,.slice none 0 0,.bool false,.int .u64 0,.int .u64 0,.int .u64 0,.int .u64 0,.int .u64 0,.int .u64 0,.int .u64 0,.int .u64 0] 144)).alloc (.cells #[.int .u8 6,.slice none 0 0,.bool false,.int .u64 0,.int .u64 0,.int .u64 0,.int .u64 0,.int .u64 0,.int .u64 0,.int .u64 0,.int .u64 0] 144))).heap[w.heap.size+1]?=some (.cells (zF 0) 144 (0,0))):=by rw [zF_eq];exact (Below.heap_alloc _ _ _ (by simp)).trans (heap_alloc2_new _ _ _)
  have R2:Hid (((((w.alloc (.cells #[.int .u8 6,.int .u32 set,.slice a m c] 88)).alloc (.cells #[.int .u8 0,.slice none 0 0,.bool false,.int .u64 0,.int .u64 0,.int .u64 0,.int .u64 0,.int .u64 0,.int .u64 0,.int .u64 0,.int .u64 0] 144)).alloc (.cells #[.int .u8 6,.slice none 0 0,.bool false,.int .u64 0,.int .u64 0,.int .u64 0,.int .u64 0,.int .u64 0,.int .u64 0,.int .u64 0,.int .u64 0] 144))).heap[w.heap.size+1+1]?=some (.cells (zF 6) 144 (0,0))):=by rw [zF_eq];exact heap_alloc3_new _ _ _ _
  have O0:Hid (Only (fun _=>False) w ((((w.alloc (.cells #[.int .u8 6,.int .u32 set,.slice a m c] 88)).alloc (.cells #[.int .u8 0,.slice none 0 0,.bool false,.int .u64 0,.int .u64 0,.int .u64 0,.int .u64 0,.int .u64 0,.int .u64 0,.int .u64 0,.int .u64 0] 144)).alloc (.cells #[.int .u8 6,.slice none 0 0,.bool false,.int .u64 0,.int .u64 0,.int .u64 0,.int .u64 0,.int .u64 0,.int .u64 0,.int .u64 0,.int .u64 0] 144)))):=(((Only.refl _ _).alloc _).alloc _).alloc _
  go_enter Tryz.func76,Tryz.ntmps76
  go_wp2_with (first | (go_at_call 97;refine (HK.out _).mono ?_;rintro e w1 ⟨rfl,ho1⟩;have k1:=(ho1.block _ (Array.getElem?_eq_some_iff.1 R1.out).1 (fun h=>h)).trans R1.out;have k2:=(ho1.block _ (Array.getElem?_eq_some_iff.1 R2.out).1 (fun h=>h)).trans R2.out;have HN:Hid (((w1.setCell ⟨w.heap.size+1+1,1,none⟩ (.slice a m1 c)).setCell ⟨w.heap.size+1+1,2,none⟩ (.bool true)).heap[w.heap.size+1+1]?=some (.cells (fmC 6 a m1 c ⟨true,0,0⟩) 144 (0,0))):=heap_setCell_at (k:=2) (heap_setCell_at (k:=1) k2 (.slice a m1 c)) (.bool true);have HN1:Hid (((w1.setCell ⟨w.heap.size+1+1,1,none⟩ (.slice a m1 c)).setCell ⟨w.heap.size+1+1,2,none⟩ (.bool true)).heap[w.heap.size+1]?=some (.cells (zF 0) 144 (0,0))):=((Below.heap_setCell _ _ _ _ (by simp)).trans ((Below.heap_setCell _ _ _ _ (by simp)).trans k1));have HO:Hid (Only (fun g=>w.heap.size≤g) w ((w1.setCell ⟨w.heap.size+1+1,1,none⟩ (.slice a m1 c)).setCell ⟨w.heap.size+1+1,2,none⟩ (.bool true))):=((((O0.out.trans ho1).mono (S':=fun g=>w.heap.size≤g) (fun _ h=>h.elim)).setCell (p:=⟨w.heap.size+1+1,1,none⟩) (show w.heap.size≤w.heap.size+1+1 by omega) _).setCell (p:=⟨w.heap.size+1+1,2,none⟩) (show w.heap.size≤w.heap.size+1+1 by omega) _);have c1:w1.cell? ⟨w.heap.size+1+1,1,none⟩=some (.slice none 0 0):=cell_blk k2;have c2:w1.cell? ⟨w.heap.size+1+1,2,none⟩=some (.bool false):=cell_blk k2;have f1:=fz_blk k2 1;have f2:=fz_blk k2 2;clear k1 k2 ho1) | refine wpList_load_row rfl 144 _ rfl (w.heap.size+1+1) rfl 144 _ (0,0) _ HN.out Tryz.underlying144 rfl sz136 ?_ | refine wpList_store_rowTo rfl 144 _ _ rfl rfl (w.heap.size+1) (fmC 6 a m1 c ⟨true,0,0⟩) rfl rfl 144 _ HN1.out sz136 rfl (fmC_one _ _ _ _ _) ?_)
  refine bodyPost_ret (v:=.tuple #[fmV 6 a m1 c ⟨true,0,0⟩,.bool true]) (results_row1 (p:=4) (u:=5) rfl _ _ (w.heap.size+1) 144 (fmC 6 a m1 c ⟨true,0,0⟩) (0,0) _ rfl (heap_setRow _ _ _ _ _ _ HN1.out) Tryz.underlying144 rfl sz136 rfl) rfl ⟨rfl,?_⟩
  exact (HO.out.setRow (by omega) _).old (fun _ h=>Or.inl h)
set_option maxRecDepth 100000 in
set_option maxHeartbeats 4000000 in
theorem begin1full (g cl:Nat) (b nx:Nat→Nat) (fs:Nat) (vL:Value) (em:Nat) (set:Int) (a:Option Addr) (m c:Nat) (w:World) (hP:Plb w g cl 200 b nx fs vL em) :
    Calls Tryz.prog 76 #[.pointer (some ⟨g,0,none⟩),.agg #[.int .u8 1,.int .u32 set,.slice a m c]] w fun e w'=>e=.returned (.tuple #[.agg (zF 0),.bool false])∧Only (fun _=>False) w w':=by
  have hlt:=hP.lt
  have hlt1:g < w.heap.size+1:=by omega
  have hlt2:g < w.heap.size+1+1:=by omega
  have c1:w.cell? ⟨g,1,none⟩=some (.int .i64 200):=hP.c1
  clear hP
  rw [zF_eq]
  go_enter Tryz.func76,Tryz.ntmps76
  go_wp2_with fail
  refine bodyPost_ret (v:=.tuple #[.agg #[.int .u8 0,.slice none 0 0,.bool false,.int .u64 0,.int .u64 0,.int .u64 0,.int .u64 0,.int .u64 0,.int .u64 0,.int .u64 0,.int .u64 0],.bool false]) (by simp [results,Tryz.results76,go_sem]) rfl ⟨rfl,?_⟩
  exact (((Only.refl _ _).alloc _).alloc _).alloc _
end Go.Proofs.YtchaoonefiamdaaGreatDoor
namespace Go.Proofs.YtchaoonefiamdaaGreatDoor
open Go.RowKit Go.Maps
set_option linter.unusedVariables false
set_option linter.unusedSimpArgs false
def putL:List Value→Array Value→Nat→Array Value
  | [],cs,_=>cs
  | v :: r,cs,o=>putL r (cs.setIfInBounds o v) (o+1)
theorem heap_setCells {b:Nat} {t:TypeId} {z:Nat × Nat}:∀ (vs:List Value) (o:Nat) (w:World) (cs:Array Value),w.heap[b]?=some (.cells cs t z)→(w.setCells b o vs).heap[b]?=some (.cells (putL vs cs o) t z)
  | [],_,_,_,h=>h
  | v :: r,o,w,cs,h=>by rw [World.setCells,putL];exact heap_setCells r (o+1) _ _ (heap_setCell_at h v)
theorem Only.setCells {S:Nat→Prop} {a:World} {b:Nat} (hb:S b):∀ (vs:List Value) (o:Nat) (w:World),Only S a w→Only S a (w.setCells b o vs)
  | [],_,_,h=>h
  | v :: r,o,w,h=>by rw [World.setCells];exact Only.setCells hb r (o+1) _ (h.setCell (p:=⟨b,o,none⟩) hb v)
theorem there_blk {w:World} {b:Nat} {cs:Array Value} {t:TypeId} (h:w.heap[b]?=some (.cells cs t (0,0))) (o n:Nat) (hn:o+n≤cs.size):w.there b o n:=fun j hj =>
  ⟨by rw [cell_blk h,Array.getElem?_eq_getElem (by omega)];rfl,fz_blk h _⟩
theorem wpList_store_midTo {P:Program} {ops:Array Oper} {rest:List Oper} {op:Oper} {a:Act} {w:World} {Q:Exit→Act→World→Prop} (hgd:op.guard=none) (ty:TypeId) (x y:Operand) (ho:op.op=.store ty x y)
    (hd:op.dst=none) (b o:Nat) (cells:Array Value) (hx:a.eval x=.pointer (some ⟨b,o,none⟩)) (hy:a.eval y=.agg cells)
    (ht:w.there b o cells.size) (hi:(P.info? ty).map (·.size)=some cells.size) (h1:cells.all (·.oneCell')=true)
    (h:wpList P ops Q rest a (w.setCells b o cells.toList)):wpList P ops Q (op :: rest) a w :=
  wpList_store_mid hgd ty x y ho b o cells hx hy ht hi h1 (by rw [hd];exact h)
theorem wpList_store_midAny {P:Program} {ops:Array Oper} {rest:List Oper} {op:Oper} {a:Act} {w:World} {Q:Exit→Act→World→Prop} (hgd:op.guard=none) (ty:TypeId) (x y:Operand) (ho:op.op=.store ty x y)
    (hd:op.dst=none) (b o:Nat) (cells:Array Value) (hx:a.eval x=.pointer (some ⟨b,o,none⟩)) (hy:a.eval y=.agg cells)
    (t:TypeId) (cs:Array Value) (hb:w.heap[b]?=some (.cells cs t (0,0))) (hs:o+cells.size≤cs.size) (hi:(P.info? ty).map (·.size)=some cells.size) (h1:cells.all (·.oneCell')=true)
    (h:∀ w',w'.heap[b]?=some (.cells (putL cells.toList cs o) t (0,0))→Only (·=b) w w'→wpList P ops Q rest a w'):wpList P ops Q (op :: rest) a w :=
  wpList_store_midTo hgd ty x y ho hd b o cells hx hy (there_blk hb _ _ hs) hi h1 (h _ (heap_setCells _ _ _ _ hb) (Only.setCells (S:=(·=b)) rfl _ _ _ (Only.refl _ _)))
theorem wpList_store_rowAny {P:Program} {ops:Array Oper} {rest:List Oper} {op:Oper} {a:Act} {w:World} {Q:Exit→Act→World→Prop} (hgd:op.guard=none) (ty:TypeId) (x y:Operand) (ho:op.op=.store ty x y)
    (hd:op.dst=none) (b:Nat) (cells:Array Value) (hx:a.eval x=.pointer (some ⟨b,0,none⟩)) (hy:a.eval y=.agg cells)
    (t:TypeId) (cs:Array Value) (hb:w.heap[b]?=some (.cells cs t (0,0))) (hi:(P.info? ty).map (·.size)=some cells.size) (hs:cs.size=cells.size) (h1:cells.all (·.oneCell')=true)
    (h:∀ w',w'.heap[b]?=some (.cells cells t (0,0))→Only (·=b) w w'→wpList P ops Q rest a w'):wpList P ops Q (op :: rest) a w :=
  wpList_store_rowTo hgd ty x y ho hd b cells hx hy t cs hb hi hs h1 (h _ (heap_setRow _ _ _ _ _ _ hb) ((Only.refl (·=b) _).setRow rfl _))
def HasF (cs:Array Value) (o:Nat) (op:Int) (a:Option Addr) (m c:Nat) (x:Au.Nd):Prop:=∀ k,k < 11→cs[o+k]?=(fmC op a m c x)[k]?
def Same (cs cs':Array Value) (o:Nat):Prop:=cs'.size=cs.size∧∀ j,j < o∨o+11≤j→cs'[j]?=cs[j]?
theorem Same.trans {a b c:Array Value} {o:Nat} (h:Same a b o) (k:Same b c o):Same a c o:=⟨k.1.trans h.1,fun j hj=>(k.2 j hj).trans (h.2 j hj)⟩
theorem HasF.size {cs:Array Value} {o:Nat} {op:Int} {a:Option Addr} {m c:Nat} {x:Au.Nd} (h:HasF cs o op a m c x):o+11≤cs.size:=by
  have:=(Array.getElem?_eq_some_iff.1 ((h 10 (by decide)).trans rfl)).1
  omega
theorem HasF.first {cs:Array Value} {o:Nat} {op:Int} {a:Option Addr} {m c:Nat} {x:Au.Nd} (h:HasF cs o op a m c x):HasS cs (o+3) x.first:=by
  intro k hk
  rw [show o+3+k=o+(3+k) by omega,h (3+k) (by omega)]
  rcases (show k=0∨k=1∨k=2∨k=3 by omega) with rfl | rfl | rfl | rfl <;> rfl
theorem HasF.last {cs:Array Value} {o:Nat} {op:Int} {a:Option Addr} {m c:Nat} {x:Au.Nd} (h:HasF cs o op a m c x):HasS cs (o+7) x.last:=by
  intro k hk
  rw [show o+7+k=o+(7+k) by omega,h (7+k) (by omega)]
  rcases (show k=0∨k=1∨k=2∨k=3 by omega) with rfl | rfl | rfl | rfl <;> rfl
theorem fmC_cases {k:Nat} (h:k < 11):k=0∨k=1∨k=2∨k=3∨k=4∨k=5∨k=6∨k=7∨k=8∨k=9∨k=10:=by omega
theorem HasF.setB {cs:Array Value} {o:Nat} {op:Int} {a:Option Addr} {m c:Nat} {e:Bool} {f l:Nat} (h:HasF cs o op a m c ⟨e,f,l⟩) (e':Bool):HasF (cs.setIfInBounds (o+2) (.bool e')) o op a m c ⟨e',f,l⟩∧Same cs (cs.setIfInBounds (o+2) (.bool e')) o:=by
  have hs:=h.size
  refine ⟨fun k hk=>?_,by simp,fun j hj=>?_⟩
  · rw [Array.getElem?_setIfInBounds]
    by_cases e2:o+2=o+k
    · rw [if_pos e2,if_pos (by omega)]
      obtain rfl:k=2:=by omega
      rfl
    · rw [if_neg e2,h k hk]
      rcases fmC_cases hk with rfl | rfl | rfl | rfl | rfl | rfl | rfl | rfl | rfl | rfl | rfl <;> first | rfl | omega
  · rw [Array.getElem?_setIfInBounds,if_neg (by omega)]
theorem HasF.setSl {cs:Array Value} {o:Nat} {op:Int} {a:Option Addr} {m c:Nat} {x:Au.Nd} (h:HasF cs o op a m c x) (a':Option Addr) (m' c':Nat):HasF (cs.setIfInBounds (o+1) (.slice a' m' c')) o op a' m' c' x∧Same cs (cs.setIfInBounds (o+1) (.slice a' m' c')) o:=by
  have hs:=h.size
  refine ⟨fun k hk=>?_,by simp,fun j hj=>?_⟩
  · rw [Array.getElem?_setIfInBounds]
    by_cases e2:o+1=o+k
    · rw [if_pos e2,if_pos (by omega)]
      obtain rfl:k=1:=by omega
      rfl
    · rw [if_neg e2,h k hk]
      rcases fmC_cases hk with rfl | rfl | rfl | rfl | rfl | rfl | rfl | rfl | rfl | rfl | rfl <;> first | rfl | omega
  · rw [Array.getElem?_setIfInBounds,if_neg (by omega)]
theorem HasF.setF {cs:Array Value} {o:Nat} {op:Int} {a:Option Addr} {m c:Nat} {e:Bool} {f l:Nat} (h:HasF cs o op a m c ⟨e,f,l⟩) (S:Nat):HasF (inC cs (o+3) S 4) o op a m c ⟨e,S,l⟩∧Same cs (inC cs (o+3) S 4) o:=by
  have hs:=h.size
  refine ⟨fun k hk=>?_,by rw [inC_size],fun j hj=>?_⟩
  · rw [inC_at _ _ _ _ _ (by omega)]
    by_cases e2:o+3≤o+k∧o+k < o+3+4
    · rw [if_pos e2]
      rcases fmC_cases hk with rfl | rfl | rfl | rfl | rfl | rfl | rfl | rfl | rfl | rfl | rfl <;> first | omega | (rw [show ∀ q,o+q - (o+3)=q - 3 by omega];rfl)
    · rw [if_neg e2,h k hk]
      rcases fmC_cases hk with rfl | rfl | rfl | rfl | rfl | rfl | rfl | rfl | rfl | rfl | rfl <;> first | rfl | omega
  · rw [inC_at _ _ _ _ _ (by omega),if_neg (by omega)]
theorem HasF.setL {cs:Array Value} {o:Nat} {op:Int} {a:Option Addr} {m c:Nat} {e:Bool} {f l:Nat} (h:HasF cs o op a m c ⟨e,f,l⟩) (S:Nat):HasF (inC cs (o+7) S 4) o op a m c ⟨e,f,S⟩∧Same cs (inC cs (o+7) S 4) o:=by
  have hs:=h.size
  refine ⟨fun k hk=>?_,by rw [inC_size],fun j hj=>?_⟩
  · rw [inC_at _ _ _ _ _ (by omega)]
    by_cases e2:o+7≤o+k∧o+k < o+7+4
    · rw [if_pos e2]
      rcases fmC_cases hk with rfl | rfl | rfl | rfl | rfl | rfl | rfl | rfl | rfl | rfl | rfl <;> first | omega | (rw [show ∀ q,o+q - (o+7)=q - 7 by omega];rfl)
    · rw [if_neg e2,h k hk]
      rcases fmC_cases hk with rfl | rfl | rfl | rfl | rfl | rfl | rfl | rfl | rfl | rfl | rfl <;> first | rfl | omega
  · rw [inC_at _ _ _ _ _ (by omega),if_neg (by omega)]
end Go.Proofs.YtchaoonefiamdaaGreatDoor
namespace Go.Proofs.YtchaoonefiamdaaGreatDoor
open Go.RowKit Go.Maps
set_option linter.unusedVariables false
set_option linter.unusedSimpArgs false
theorem put_pt (op:Int) (a:Option Addr) (m c:Nat) (x y:Au.Nd):putL (ptC x).toList (fmC op a m c y) 2=fmC op a m c x:=by simp [putL,ptC,fmC]
set_option maxRecDepth 100000 in
set_option maxHeartbeats 4000000 in
theorem begin1 (g cl n:Nat) (b nx:Nat→Nat) (fs:Nat) (vL:Value) (em:Nat) (set:Int) (a:Option Addr) (m c:Nat) (w:World) (hP:Plb w g cl n b nx fs vL em) (hn:n < 200) (hcl:cl≤24) (hs0:0≤set) (hs1:set < 4294967296) :
    Calls Tryz.prog 76 #[.pointer (some ⟨g,0,none⟩),.agg #[.int .u8 1,.int .u32 set,.slice a m c]] w fun e w'=>e=.returned (.tuple #[fmV 1 none 0 0 ⟨false,2 ^ n,2 ^ n⟩,.bool true])∧Plb w' g cl (n+1) (byk b set n cl) nx fs vL em∧Only (·=g) w w':=by
  have hlt:=hP.lt
  have hlt1:g < w.heap.size+1:=by omega
  have hlt2:g < w.heap.size+1+1:=by omega
  have HP:Hid (Plb w g cl n b nx fs vL em):=hP
  have c1:=hP.c1
  have q:((n:Int) == 200)=false:=by simp;omega
  clear hP
  have R1:Hid (((((w.alloc (.cells #[.int .u8 1,.int .u32 set,.slice a m c] 88)).alloc (.cells #[.int .u8 0,.slice none 0 0,.bool false,.int .u64 0,.int .u64 0,.int .u64 0,.int .u64 0,.int .u64 0,.int .u64 0,.int .u64 0,.int .u64 0] 144)).alloc (.cells #[.int .u8 1,.slice none 0 0,.bool false,.int .u64 0,.int .u64 0,.int .u64 0,.int .u64 0,.int .u64 0,.int .u64 0,.int .u64 0,.int .u64 0] 144))).heap[w.heap.size+1]?=some (.cells (zF 0) 144 (0,0))):=by rw [zF_eq];exact (Below.heap_alloc _ _ _ (by simp)).trans (heap_alloc2_new _ _ _)
  have R2:Hid (((((w.alloc (.cells #[.int .u8 1,.int .u32 set,.slice a m c] 88)).alloc (.cells #[.int .u8 0,.slice none 0 0,.bool false,.int .u64 0,.int .u64 0,.int .u64 0,.int .u64 0,.int .u64 0,.int .u64 0,.int .u64 0,.int .u64 0] 144)).alloc (.cells #[.int .u8 1,.slice none 0 0,.bool false,.int .u64 0,.int .u64 0,.int .u64 0,.int .u64 0,.int .u64 0,.int .u64 0,.int .u64 0,.int .u64 0] 144))).heap[w.heap.size+1+1]?=some (.cells (zF 1) 144 (0,0))):=by rw [zF_eq];exact heap_alloc3_new _ _ _ _
  have O0:Hid (Only (fun _=>False) w ((((w.alloc (.cells #[.int .u8 1,.int .u32 set,.slice a m c] 88)).alloc (.cells #[.int .u8 0,.slice none 0 0,.bool false,.int .u64 0,.int .u64 0,.int .u64 0,.int .u64 0,.int .u64 0,.int .u64 0,.int .u64 0,.int .u64 0] 144)).alloc (.cells #[.int .u8 1,.slice none 0 0,.bool false,.int .u64 0,.int .u64 0,.int .u64 0,.int .u64 0,.int .u64 0,.int .u64 0,.int .u64 0,.int .u64 0] 144)))):=(((Only.refl _ _).alloc _).alloc _).alloc _
  go_enter Tryz.func76,Tryz.ntmps76
  go_wp2_with fail
  go_at_call 96
  refine (plc_any g cl n b nx fs vL em set _ (HP.out.only O0.out (fun h=>h)) hn hcl hs0 hs1).mono ?_
  rintro e w1 ⟨rfl,hp1,ho1⟩
  have HP1:Hid (Plb w1 g cl (n+1) (byk b set n cl) nx fs vL em):=hp1
  have HO1:Hid (Only (fun h=>h=g∨w.heap.size≤h) w w1):=(O0.out.mono (fun _ h=>h.elim)).trans (ho1.mono (fun _ h=>Or.inl h))
  have k1:=(ho1.block _ (Array.getElem?_eq_some_iff.1 R1.out).1 (by omega)).trans R1.out
  have k2:=(ho1.block _ (Array.getElem?_eq_some_iff.1 R2.out).1 (by omega)).trans R2.out
  have K1:Hid (w1.heap[w.heap.size+1]?=some (.cells (zF 0) 144 (0,0))):=k1
  have K2:Hid (w1.heap[w.heap.size+1+1]?=some (.cells (zF 1) 144 (0,0))):=k2
  clear k1 k2 ho1 hp1 R1 R2 O0 HP
  have hpt:ptV ⟨false,2 ^ n,2 ^ n⟩=.agg (ptC ⟨false,2 ^ n,2 ^ n⟩):=rfl
  rw [hpt]
  clear hpt
  obtain ⟨X,hX⟩:∃ X,X=ptC ⟨false,2 ^ n,2 ^ n⟩:=⟨_,rfl⟩
  obtain ⟨Y,hY⟩:∃ Y,Y=fmC 1 none 0 0 ⟨false,2 ^ n,2 ^ n⟩:=⟨_,rfl⟩
  have HY:Hid (.agg Y=fmV 1 none 0 0 ⟨false,2 ^ n,2 ^ n⟩∧putL X.toList (zF 1) 2=Y∧X.size=9∧X.all (·.oneCell')=true∧Y.size=11∧Y.all (·.oneCell')=true):=by
    subst hX hY
    exact ⟨rfl,put_pt _ _ _ _ _ _,rfl,ptC_one _,rfl,fmC_one _ _ _ _ _⟩
  rw [← hX]
  clear hX hY
  have sX:Hid ((Tryz.prog.info? 113).map (·.size)=some X.size):=by rw [HY.out.2.2.1];exact sz109
  have sY:Hid ((Tryz.prog.info? 144).map (·.size)=some Y.size):=by rw [HY.out.2.2.2.2.1];exact sz136
  go_wp2_with (first | (refine wpList_store_midAny rfl 113 _ _ rfl rfl (w.heap.size+1+1) 2 X rfl rfl 144 _ K2.out (by rw [HY.out.2.2.1];decide) sX.out HY.out.2.2.2.1 ?_;intro w2 h2 o2;rw [HY.out.2.1] at h2;have H2:Hid (w2.heap[w.heap.size+1+1]?=some (.cells Y 144 (0,0))):=h2;have O2:Hid (Only (·=w.heap.size+1+1) w1 w2):=o2;clear h2 o2;have HN1:Hid (w2.heap[w.heap.size+1]?=some (.cells (zF 0) 144 (0,0))):=(O2.out.block _ (Array.getElem?_eq_some_iff.1 K1.out).1 (by omega)).trans K1.out) | refine wpList_load_row rfl 144 _ rfl (w.heap.size+1+1) rfl 144 _ (0,0) _ H2.out Tryz.underlying144 rfl sY.out ?_ | (refine wpList_store_rowAny rfl 144 _ _ rfl rfl (w.heap.size+1) Y rfl rfl 144 _ HN1.out sY.out (by rw [HY.out.2.2.2.2.1];rfl) HY.out.2.2.2.2.2 ?_;intro w3 h3 o3;have H3:Hid (w3.heap[w.heap.size+1]?=some (.cells Y 144 (0,0))):=h3;have O3:Hid (Only (·=w.heap.size+1) w2 w3):=o3;clear h3 o3))
  have hO:Only (fun h=>h=g∨w.heap.size≤h) w w3:=(HO1.out.trans (O2.out.mono (fun _ h=>by omega))).trans (O3.out.mono (fun _ h=>by omega))
  refine bodyPost_ret (v:=.tuple #[fmV 1 none 0 0 ⟨false,2 ^ n,2 ^ n⟩,.bool true]) (by rw [← HY.out.1];exact results_row1 (p:=4) (u:=5) rfl _ _ (w.heap.size+1) 144 Y (0,0) _ rfl H3.out Tryz.underlying144 rfl sY.out rfl) rfl ⟨rfl,(HP1.out.only O2.out (by omega)).only O3.out (by omega),hO.old (fun _ h=>h.symm)⟩
end Go.Proofs.YtchaoonefiamdaaGreatDoor
