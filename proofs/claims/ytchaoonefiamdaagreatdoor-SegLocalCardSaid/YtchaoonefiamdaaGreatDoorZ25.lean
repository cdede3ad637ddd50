/- Rvx P1x Ok A1y -/
import Derived.Test.YtchaoonefiamdaaGreatDoorZ24
import Derived.Test.YtchaoonefiamdaaGreatDoorZ23
import Derived.Defers
namespace Go.Proofs.YtchaoonefiamdaaGreatDoor
open Go.RowKit Go.Maps
set_option linter.unusedVariables false
set_option linter.unusedSimpArgs false
theorem alloc_size (w:World) (o:Obj):(w.alloc o).heap.size=w.heap.size+1:=by simp
def Rv (w:World) (B:Nat) (v:Value) (s:Rl.St):Prop:=∃ (aC aT aL:Option Addr) (cC cT cL:Nat),v=.agg #[.slice aC s.cls.length cC,.int .u32 s.join,.int .u32 s.after,.slice aT s.treat.length cT,.slice aL s.list.length cL]∧w.ownsRow B 9 1 (.slice aC s.cls.length cC) s.cls.length (strs s.cls)∧w.ownsRow B 3 1 (.slice aT s.treat.length cT) s.treat.length (ints s.treat)∧Rls w B (.slice aL s.list.length cL) s.list∧s.treat.length=s.cls.length∧s.cls.length≤24∧s.list.length≤24
def noRules:Value:=.agg #[.slice none 0 0,.int .u32 0,.int .u32 0,.slice none 0 0,.slice none 0 0]
theorem info37:(Tryz.prog.info? 45).map (·.size)=some 5:=by kernel_rfl
theorem Rv.only {w w':World} {B:Nat} {v:Value} {s:Rl.St} {P:Nat→Prop} (h:Rv w B v s) (ho:Only P w w') (hP:∀ g,B≤g→¬ P g):Rv w' B v s:=by
  obtain ⟨aC,aT,aL,cC,cT,cL,h1,h2,h3,h4,h5⟩:=h
  exact ⟨aC,aT,aL,cC,cT,cL,h1,own_only h2 ho hP,own_only h3 ho hP,h4.only ho hP,h5⟩
def set5 (w:World) (z:Nat) (a b c d e:Value):World:=((((w.setCell ⟨z,0,none⟩ a).setCell ⟨z,1,none⟩ b).setCell ⟨z,2,none⟩ c).setCell ⟨z,3,none⟩ d).setCell ⟨z,4,none⟩ e
theorem set5_at {w:World} {z:Nat} {v0 v1 v2 v3 v4:Value} {t:TypeId} (h:w.heap[z]?=some (.cells #[v0,v1,v2,v3,v4] t (0,0))) (a b c d e:Value):(set5 w z a b c d e).heap[z]?=some (.cells #[a,b,c,d,e] t (0,0)):=heap_setCell_at (heap_setCell_at (heap_setCell_at (heap_setCell_at (heap_setCell_at h a) b) c) d) e
theorem set5_only (w:World) (z:Nat) (a b c d e:Value):Only (·=z) w (set5 w z a b c d e):=(((((Only.refl (·=z) w).setCell (p:=⟨z,0,none⟩) rfl a).setCell (p:=⟨z,1,none⟩) rfl b).setCell (p:=⟨z,2,none⟩) rfl c).setCell (p:=⟨z,3,none⟩) rfl d).setCell (p:=⟨z,4,none⟩) rfl e
set_option linter.unusedVariables false
set_option linter.unusedSimpArgs false
theorem Rcs.get {w:World} {F:Nat→Prop}:∀ (rs:List Rl.Rule) (c:Nat→Option Value) (i:Nat) (r:Rl.Rule),Rcs w F rs c→rs[i]?=some r→∃ op st a n cap op' st' a' n' cap',c (7*i)=some (.int .u8 r.does)∧c (7*i+1)=some (.int .u8 op)∧c (7*i+2)=some (.int .u32 st)∧c (7*i+3)=some (.slice a n cap)∧Tr w F r.left (.agg #[.int .u8 op,.int .u32 st,.slice a n cap])∧c (7*i+4)=some (.int .u8 op')∧c (7*i+5)=some (.int .u32 st')∧c (7*i+6)=some (.slice a' n' cap')∧Tr w F r.right (.agg #[.int .u8 op',.int .u32 st',.slice a' n' cap'])
  | [],_,i,_,_,h=>by simp at h
  | r0 :: rs,c,0,r,ht,h=>by
    simp at h
    subst h
    obtain ⟨⟨h0,⟨o,s,k,h1,h2,h3,h4⟩,⟨o',s',k',h5,h6,h7,h8⟩⟩,_⟩:=ht
    obtain ⟨op,st,a,n,cap,hf⟩:=h4.form
    obtain ⟨op',st',a',n',cap',hf'⟩:=h8.form
    simp only [Value.agg.injEq,Array.mk.injEq,List.cons.injEq,and_true] at hf hf'
    obtain ⟨rfl,rfl,rfl⟩:=hf
    obtain ⟨rfl,rfl,rfl⟩:=hf'
    exact ⟨op,st,a,n,cap,op',st',a',n',cap',h0,h1,h2,h3,h4,h5,h6,h7,h8⟩
  | r0 :: rs,c,i+1,r,ht,h=>Rcs.get rs _ i r ht.2 (by simpa using h)
theorem Rls.get {w:World} {B:Nat} {a:Option Addr} {c:Nat} {l:List Rl.Rule} (h:Rls w B (.slice a l.length c) l) {i:Nat} {r:Rl.Rule} (hi:l[i]?=some r):∃ g op st a1 n cap op' st' a1' n' cap',a=some ⟨g,0,none⟩∧g < w.heap.size∧w.cell? ⟨g,i*7,none⟩=some (.int .u8 r.does)∧w.cell? ⟨g,i*7+1,none⟩=some (.int .u8 op)∧w.cell? ⟨g,i*7+2,none⟩=some (.int .u32 st)∧w.cell? ⟨g,i*7+3,none⟩=some (.slice a1 n cap)∧Tr w (fun b=>B≤b) r.left (.agg #[.int .u8 op,.int .u32 st,.slice a1 n cap])∧w.cell? ⟨g,i*7+4,none⟩=some (.int .u8 op')∧w.cell? ⟨g,i*7+5,none⟩=some (.int .u32 st')∧w.cell? ⟨g,i*7+6,none⟩=some (.slice a1' n' cap')∧Tr w (fun b=>B≤b) r.right (.agg #[.int .u8 op',.int .u32 st',.slice a1' n' cap']):=by
  obtain ⟨xs,h1,h2⟩:=h
  have hlt:i < l.length:=(List.getElem?_eq_some_iff.1 hi).1
  obtain ⟨g,cap0,hv,_,hg,_,hc⟩:=row_form h1 (by omega)
  obtain ⟨op,st,a1,n,cap,op',st',a1',n',cap',e0,e1,e2,e3,e4,e5,e6,e7,e8⟩:=Rcs.get l _ i r h2 hi
  have ha:a=some ⟨g,0,none⟩:=by injection hv
  rw [Nat.mul_comm] at e0 e1 e2 e3 e5 e6 e7
  exact ⟨g,op,st,a1,n,cap,op',st',a1',n',cap',ha,hg,(hc _ (by omega)).trans e0,(hc _ (by omega)).trans e1,(hc _ (by omega)).trans e2,(hc _ (by omega)).trans e3,e4,(hc _ (by omega)).trans e5,(hc _ (by omega)).trans e6,(hc _ (by omega)).trans e7,e8⟩
def Xr (w:World) (b:Nat) (v0 v1 v2 v3 v4:Value):Prop:=w.heap[b]?=some (.cells #[v0,v1,v2,v3,v4] 45 (0,0))
section
variable {w w':World} {b:Nat} {v0 v1 v2 v3 v4:Value}
theorem Xr.only {P:Nat→Prop} (h:Xr w b v0 v1 v2 v3 v4) (ho:Only P w w') (hn:¬ P b):Xr w' b v0 v1 v2 v3 v4:=(ho.block b (Array.getElem?_eq_some_iff.1 h).1 hn).trans h
theorem Xr.new (w:World) (v0 v1 v2 v3 v4:Value):Xr (w.alloc (.cells #[v0,v1,v2,v3,v4] 45)) w.heap.size v0 v1 v2 v3 v4:=heap_alloc_new _ _
theorem Xr.alloc (h:Xr w b v0 v1 v2 v3 v4) (o:Obj):Xr (w.alloc o) b v0 v1 v2 v3 v4:=(Below.heap_alloc _ _ _ (Array.getElem?_eq_some_iff.1 h).1).trans h
theorem Xr.c0 (h:Xr w b v0 v1 v2 v3 v4):w.cell? ⟨b,0,none⟩=some v0:=(cell_of_row _ _ _ _ _ _ h).trans rfl
theorem Xr.c1 (h:Xr w b v0 v1 v2 v3 v4):w.cell? ⟨b,1,none⟩=some v1:=(cell_of_row _ _ _ _ _ _ h).trans rfl
theorem Xr.c2 (h:Xr w b v0 v1 v2 v3 v4):w.cell? ⟨b,2,none⟩=some v2:=(cell_of_row _ _ _ _ _ _ h).trans rfl
theorem Xr.c3 (h:Xr w b v0 v1 v2 v3 v4):w.cell? ⟨b,3,none⟩=some v3:=(cell_of_row _ _ _ _ _ _ h).trans rfl
theorem Xr.c4 (h:Xr w b v0 v1 v2 v3 v4):w.cell? ⟨b,4,none⟩=some v4:=(cell_of_row _ _ _ _ _ _ h).trans rfl
end
end Go.Proofs.YtchaoonefiamdaaGreatDoor
namespace Go.Proofs.YtchaoonefiamdaaGreatDoor
open Go.RowKit Go.Maps
set_option linter.unusedVariables false
set_option linter.unusedSimpArgs false
theorem results_row_row {P:Program} {fn:Func} {p q:Tmp} {ty ty':TypeId} (h:fn.results=#[.cell p ty,.cell q ty']) (tmps:Array Value) (w:World) (g:Nat) (t:TypeId) (cs:Array Value) (fr:Nat × Nat) (d:TypeDesc)
    (hp:tmps.getD p undef=.pointer (some ⟨g,0,none⟩)) (hg:w.heap[g]?=some (.cells cs t fr))
    (hu:P.underlying ty=some d) (hd:(match d with | .struct _ | .array _ _=>true | _=>false)=true) (hi:(P.info? ty).map (·.size)=some cs.size)
    (g':Nat) (t':TypeId) (cs':Array Value) (fr':Nat × Nat) (d':TypeDesc)
    (hp2:tmps.getD q undef=.pointer (some ⟨g',0,none⟩)) (hg2:w.heap[g']?=some (.cells cs' t' fr'))
    (hu2:P.underlying ty'=some d') (hd2:(match d' with | .struct _ | .array _ _=>true | _=>false)=true) (hi2:(P.info? ty').map (·.size)=some cs'.size) :
    (results fn tmps).run P w=.ok (.tuple #[.agg cs,.agg cs']) w:=by
  have hp':tmps[p]?.getD undef=.pointer (some ⟨g,0,none⟩):=by simpa using hp
  have hp2':tmps[q]?.getD undef=.pointer (some ⟨g',0,none⟩):=by simpa using hp2
  simp [results,h,hp',hp2',asAddr,run_loadVar_row w g t ty cs fr d hg hu hd hi,run_loadVar_row w g' t' ty' cs' fr' d' hg2 hu2 hd2 hi2]
theorem info40:(Tryz.prog.info? 32).map (·.size)=some 2:=by kernel_rfl
def parseP (w:World) (F:Rl.R Rl.St) (e:Ending) (w':World):Prop :=
  (match F with
  | .error f=>e=.returned (.tuple #[noRules,.agg #[.int .i64 (f.1:Int),.int .i64 (f.2:Int)]])
  | .ok s=>∃ v B,e=.returned (.tuple #[v,.agg #[.int .i64 0,.int .i64 0]])∧w.heap.size≤B∧Rv w' B v s)∧Only (fun _=>False) w w'
def xd0 (mb:Nat):Rd:=⟨.slice none 0 0,0,0,.slice none 0 0,.slice none 0 0,mb,0,0⟩
theorem Mp.made (w:World):Mp (w.alloc (.map #[] 0)) w.heap.size []:=by
  refine ⟨.map [],World.ownsMap_made w Tryz.prog 9 (plainElem Tryz.prog 42),?_,fun s=>⟨rfl,rfl⟩⟩
  exact World.ownsMap.isMap (World.ownsMap_made w Tryz.prog 9 (plainElem Tryz.prog 42))
theorem Stt.first {w:World} {rb mb:Nat} (hm:Mp w mb []) (hb:mb < rb):Stt w rb (xd0 mb) Rl.st0 :=
  ⟨World.ownsRow_nil _ _ _ _,World.ownsRow_nil _ _ _ _,⟨[],World.ownsRow_nil _ _ _ _,trivial⟩,hm,rfl,rfl,rfl,rfl,hb,by decide,by decide,by decide⟩
theorem Stt.rv {w:World} {rb:Nat} {x:Rd} {s:Rl.St} {aC aT aL:Option Addr} {cC cT cL:Nat} (h:Stt w rb x s) (h1:x.vC=.slice aC s.cls.length cC) (h2:x.vT=.slice aT s.treat.length cT) (h3:x.vL=.slice aL s.list.length cL):Rv w (rb+1) (.agg #[.slice aC s.cls.length cC,.int .u32 x.j,.int .u32 x.a,.slice aT s.treat.length cT,.slice aL s.list.length cL]) s:=by
  refine ⟨aC,aT,aL,cC,cT,cL,by rw [h.jn,h.af],by rw [← h1];exact h.cls,by rw [← h2,h.tlen];exact h.trt,by rw [← h3];exact h.lst,h.tlen,h.c24,h.l24⟩
theorem alloc4 (w:World) (a b c d:Obj):((((w.alloc a).alloc b).alloc c).alloc d).heap[w.heap.size]?=some a∧((((w.alloc a).alloc b).alloc c).alloc d).heap[w.heap.size+1]?=some b∧((((w.alloc a).alloc b).alloc c).alloc d).heap[w.heap.size+1+1]?=some c∧((((w.alloc a).alloc b).alloc c).alloc d).heap[w.heap.size+1+1+1]?=some d:=by
  have e1:(w.alloc a).heap.size=w.heap.size+1:=alloc_size _ _
  have e2:((w.alloc a).alloc b).heap.size=w.heap.size+1+1:=by rw [alloc_size,e1]
  have e3:(((w.alloc a).alloc b).alloc c).heap.size=w.heap.size+1+1+1:=by rw [alloc_size,e2]
  refine ⟨?_,?_,?_,?_⟩
  · rw [Below.heap_alloc _ _ _ (by omega),Below.heap_alloc _ _ _ (by omega),Below.heap_alloc _ _ _ (by omega)]
    exact heap_alloc_new w a
  · rw [Below.heap_alloc _ _ _ (by omega),Below.heap_alloc _ _ _ (by omega),← e1]
    exact heap_alloc_new (w.alloc a) b
  · rw [Below.heap_alloc _ _ _ (by omega),← e2]
    exact heap_alloc_new ((w.alloc a).alloc b) c
  · rw [← e3]
    exact heap_alloc_new (((w.alloc a).alloc b).alloc c) d
theorem Mp.alloc3 (w:World) (a b d:Obj):Mp ((((w.alloc a).alloc b).alloc (Obj.map #[] 0)).alloc d) (w.heap.size+1+1) []:=by
  have h:=(Mp.made ((w.alloc a).alloc b)).alloc d
  rw [alloc_size,alloc_size] at h
  exact h
set_option maxRecDepth 100000 in
set_option maxHeartbeats 8000000 in
theorem parse_any (S:ByteArray) (ts:List Rl.Tk) (n:Nat) (w:World) (hs:Rl.Strm S.data.toList 0 ts) (hS:S.size≤4096) (hn:ts.length < n) :
    Calls Tryz.prog 9 #[.string S] w (parseP w (Rl.lines n ts Rl.st0)):=by
  have hSi:¬ (4096:Int) < (S.size:Int):=by omega
  have hSd:decide ((4096:Int) < (S.size:Int))=false:=decide_eq_false hSi
  have htl:ts.length≤4097:=by have:=strm_len hs (Nat.zero_le _);rw [← Lib.size_eq] at this;omega
  have hmm:=@run_makeMap Tryz.prog
  have hmf:∀ (fn:Fn) (first cap:Array Value) (w:World),(Instr.makeFunc fn first cap).run Tryz.prog w=.ok (.func fn first cap) w:=fun _ _ _ _=>rfl
  obtain ⟨F,hF⟩:∃ F,F=Rl.lines n ts Rl.st0:=⟨_,rfl⟩
  have HF:Hid (F=Rl.lines n ts Rl.st0):=hF
  rw [← hF]
  have Hs:Hid (Rl.Strm S.data.toList 0 ts):=hs
  clear hF hs
  obtain ⟨hA,hB,hM0,hR0⟩:=alloc4 w (Obj.cells #[.slice none 0 0,.int .u32 0,.int .u32 0,.slice none 0 0,.slice none 0 0] 45) (Obj.cells #[.int .i64 0,.int .i64 0] 32) (Obj.map #[] 0) (Obj.cells (rdC S 0 (xd0 (w.heap.size+1+1))) 56)
  have hMp:=Mp.alloc3 w (Obj.cells #[.slice none 0 0,.int .u32 0,.int .u32 0,.slice none 0 0,.slice none 0 0] 45) (Obj.cells #[.int .i64 0,.int .i64 0] 32) (Obj.cells (rdC S 0 (xd0 (w.heap.size+1+1))) 56)
  have hO:Only (fun _=>False) w ((((w.alloc (Obj.cells #[.slice none 0 0,.int .u32 0,.int .u32 0,.slice none 0 0,.slice none 0 0] 45)).alloc (Obj.cells #[.int .i64 0,.int .i64 0] 32)).alloc (Obj.map #[] 0)).alloc (Obj.cells (rdC S 0 (xd0 (w.heap.size+1+1))) 56)):=((((Only.refl (fun _=>False) w).alloc _).alloc _).alloc _).alloc _
  have hL:Calls Tryz.prog 16 #[.pointer (some ⟨w.heap.size+1+1+1,0,none⟩)] ((((w.alloc (Obj.cells #[.slice none 0 0,.int .u32 0,.int .u32 0,.slice none 0 0,.slice none 0 0] 45)).alloc (Obj.cells #[.int .i64 0,.int .i64 0] 32)).alloc (Obj.map #[] 0)).alloc (Obj.cells (rdC S 0 (xd0 (w.heap.size+1+1))) 56)) (linesP (w.heap.size+1+1+1) S (w.heap.size+1+1) ((((w.alloc (Obj.cells #[.slice none 0 0,.int .u32 0,.int .u32 0,.slice none 0 0,.slice none 0 0] 45)).alloc (Obj.cells #[.int .i64 0,.int .i64 0] 32)).alloc (Obj.map #[] 0)).alloc (Obj.cells (rdC S 0 (xd0 (w.heap.size+1+1))) 56)) F):=by
    rw [HF.out]
    exact lines_any (w.heap.size+1+1+1) S (xd0 (w.heap.size+1+1)) Rl.st0 ts n ((((w.alloc (Obj.cells #[.slice none 0 0,.int .u32 0,.int .u32 0,.slice none 0 0,.slice none 0 0] 45)).alloc (Obj.cells #[.int .i64 0,.int .i64 0] 32)).alloc (Obj.map #[] 0)).alloc (Obj.cells (rdC S 0 (xd0 (w.heap.size+1+1))) 56)) ⟨0,hR0,Hs.out,Nat.zero_le _⟩ hS (Stt.first hMp (by omega)) (by show 0+ts.length≤5000;omega) hn
  have HL:Hid (Calls Tryz.prog 16 #[.pointer (some ⟨w.heap.size+1+1+1,0,none⟩)] ((((w.alloc (Obj.cells #[.slice none 0 0,.int .u32 0,.int .u32 0,.slice none 0 0,.slice none 0 0] 45)).alloc (Obj.cells #[.int .i64 0,.int .i64 0] 32)).alloc (Obj.map #[] 0)).alloc (Obj.cells (rdC S 0 (xd0 (w.heap.size+1+1))) 56)) (linesP (w.heap.size+1+1+1) S (w.heap.size+1+1) ((((w.alloc (Obj.cells #[.slice none 0 0,.int .u32 0,.int .u32 0,.slice none 0 0,.slice none 0 0] 45)).alloc (Obj.cells #[.int .i64 0,.int .i64 0] 32)).alloc (Obj.map #[] 0)).alloc (Obj.cells (rdC S 0 (xd0 (w.heap.size+1+1))) 56)) F)):=hL
  have hsz:((((w.alloc (Obj.cells #[.slice none 0 0,.int .u32 0,.int .u32 0,.slice none 0 0,.slice none 0 0] 45)).alloc (Obj.cells #[.int .i64 0,.int .i64 0] 32)).alloc (Obj.map #[] 0)).alloc (Obj.cells (rdC S 0 (xd0 (w.heap.size+1+1))) 56)).heap.size=w.heap.size+4:=by simp
  have Hk:Hid (∀ W,Fr (w.heap.size+1+1+1) (w.heap.size+1+1) ((((w.alloc (Obj.cells #[.slice none 0 0,.int .u32 0,.int .u32 0,.slice none 0 0,.slice none 0 0] 45)).alloc (Obj.cells #[.int .i64 0,.int .i64 0] 32)).alloc (Obj.map #[] 0)).alloc (Obj.cells (rdC S 0 (xd0 (w.heap.size+1+1))) 56)) W→W.heap[w.heap.size]?=some (Obj.cells #[.slice none 0 0,.int .u32 0,.int .u32 0,.slice none 0 0,.slice none 0 0] 45)∧W.heap[w.heap.size+1]?=some (Obj.cells #[.int .i64 0,.int .i64 0] 32)∧Only (fun _=>False) w W):=fun W hf=>⟨(hf.1.block _ (by rw [hsz];omega) (by unfold Lo;omega)).trans hA,(hf.1.block _ (by rw [hsz];omega) (by unfold Lo;omega)).trans hB,⟨hf.1.os.trans hO.os,hf.1.tape.trans hO.tape,hf.1.output.trans hO.output,Nat.le_trans hO.size hf.1.size,fun g hg _=>(hf.1.block g (by rw [hsz];omega) (by unfold Lo;omega)).trans (hO.block g hg (fun e=>e))⟩⟩
  clear hA hB hM0 hR0 hMp hO hL hsz HF
  cases F with
  | error f =>
    go_enter_defers Tryz.func9,Tryz.ntmps9
    go_wp2_with (go_at_call 16;refine HL.out.mono ?_;rintro e w1 ⟨rfl,hf1⟩;have HK1:=Hk.out w1 hf1;clear hf1)
    obtain ⟨hA1,hB1,hO1⟩:=HK1
    refine leaves_cons (f:=15) (args:=#[.pointer (some ⟨w.heap.size,0,none⟩),.pointer (some ⟨w.heap.size+1,0,none⟩)]) (by simp) (by simp [go_sem]) ?_
    refine (catch_thrown w.heap.size (w.heap.size+1) (f.1:Int) (f.2:Int) _ _ _ _ _ _ _ [] _ hA1 hB1 (by omega)).mono ?_
    rintro e u' w2 ⟨rfl,rfl,hA2,hB2,ho2⟩
    have hO2:Only (fun _=>False) w w2:=⟨ho2.os.trans hO1.os,ho2.tape.trans hO1.tape,ho2.output.trans hO1.output,Nat.le_trans hO1.size ho2.size,fun g hg _=>(ho2.block g (Nat.lt_of_lt_of_le hg hO1.size) (by omega)).trans (hO1.block g hg (fun e=>e))⟩
    refine ⟨.tuple #[noRules,.agg #[.int .i64 (f.1:Int),.int .i64 (f.2:Int)]],?_,rfl,hO2⟩
    exact results_row_row (fn:=Tryz.f9) (p:=2) (q:=3) (ty:=45) (ty':=32) rfl _ _ w.heap.size 45 _ (0,0) _ rfl hA2 Tryz.underlying45 rfl info37 (w.heap.size+1) 32 _ (0,0) _ rfl hB2 Tryz.underlying32 rfl info40
  | ok s =>
    go_enter_defers Tryz.func9,Tryz.ntmps9
    go_wp2_with (go_at_call 16;refine HL.out.mono ?_;rintro e w1 ⟨rfl,x1,hx1,⟨i1,hR1⟩,hS1,hf1⟩;obtain ⟨hA1,hB1,hO1⟩:=Hk.out w1 hf1;have HA1:Hid _:=hA1;have HB1:Hid _:=hB1;have HO1:Hid (Only (fun _=>False) w w1):=hO1;obtain ⟨aC,cC,hvC⟩:=own_form hS1.cls;obtain ⟨aT,cT,hvT⟩:=own_form hS1.trt;obtain ⟨ys,hoL,_⟩:=hS1.lst;obtain ⟨aL,cL,hvL⟩:=own_form hoL;have htl2:=hS1.tlen;rw [← htl2] at hvT;have d2:=hR1.c2;rw [hvC] at d2;have d3:=hR1.c3;have d4:=hR1.c4;have d5:=hR1.c5;rw [hvT] at d5;have d6:=hR1.c6;rw [hvL] at d6;have HV:Hid (Rv w1 (w.heap.size+1+1+1+1) (.agg #[.slice aC s.cls.length cC,.int .u32 x1.j,.int .u32 x1.a,.slice aT s.treat.length cT,.slice aL s.list.length cL]) s):=hS1.rv hvC hvT hvL;have hl1:=hR1.lt;clear hR1 hS1 hf1 hA1 hB1 hO1 hvC hvT hvL hoL htl2 hx1;have z0:w1.cell? ⟨w.heap.size,0,none⟩=some (.slice none 0 0):=(cell_of_row _ _ _ _ _ _ HA1.out).trans rfl;have zf0:w1.frozen? ⟨w.heap.size,0,none⟩=false:=(by simp [World.frozen?,HA1.out]);have z1:w1.cell? ⟨w.heap.size,1,none⟩=some (.int .u32 0):=(cell_of_row _ _ _ _ _ _ HA1.out).trans rfl;have zf1:w1.frozen? ⟨w.heap.size,1,none⟩=false:=(by simp [World.frozen?,HA1.out]);have z2:w1.cell? ⟨w.heap.size,2,none⟩=some (.int .u32 0):=(cell_of_row _ _ _ _ _ _ HA1.out).trans rfl;have zf2:w1.frozen? ⟨w.heap.size,2,none⟩=false:=(by simp [World.frozen?,HA1.out]);have z3:w1.cell? ⟨w.heap.size,3,none⟩=some (.slice none 0 0):=(cell_of_row _ _ _ _ _ _ HA1.out).trans rfl;have zf3:w1.frozen? ⟨w.heap.size,3,none⟩=false:=(by simp [World.frozen?,HA1.out]);have z4:w1.cell? ⟨w.heap.size,4,none⟩=some (.slice none 0 0):=(cell_of_row _ _ _ _ _ _ HA1.out).trans rfl;have zf4:w1.frozen? ⟨w.heap.size,4,none⟩=false:=(by simp [World.frozen?,HA1.out]);have y0:w1.cell? ⟨w.heap.size+1,0,none⟩=some (.int .i64 0):=(cell_of_row _ _ _ _ _ _ HB1.out).trans rfl;have yf0:w1.frozen? ⟨w.heap.size+1,0,none⟩=false:=(by simp [World.frozen?,HB1.out]);have y1:w1.cell? ⟨w.heap.size+1,1,none⟩=some (.int .i64 0):=(cell_of_row _ _ _ _ _ _ HB1.out).trans rfl;have yf1:w1.frozen? ⟨w.heap.size+1,1,none⟩=false:=(by simp [World.frozen?,HB1.out]))
    have hA2:=set5_at HA1.out (.slice aC s.cls.length cC) (.int .u32 x1.j) (.int .u32 x1.a) (.slice aT s.treat.length cT) (.slice aL s.list.length cL)
    have hB2:(set5 w1 w.heap.size (.slice aC s.cls.length cC) (.int .u32 x1.j) (.int .u32 x1.a) (.slice aT s.treat.length cT) (.slice aL s.list.length cL)).heap[w.heap.size+1]?=some (.cells #[.int .i64 0,.int .i64 0] 32 (0,0)):=((set5_only _ _ _ _ _ _ _).block _ (by omega) (by omega)).trans HB1.out
    have hso:=set5_only w1 w.heap.size (.slice aC s.cls.length cC) (.int .u32 x1.j) (.int .u32 x1.a) (.slice aT s.treat.length cT) (.slice aL s.list.length cL)
    refine leaves_cons (f:=15) (args:=#[.pointer (some ⟨w.heap.size,0,none⟩),.pointer (some ⟨w.heap.size+1,0,none⟩)]) (by simp) (by simp [go_sem]) ?_
    rw [show (((((((w1.setCell ⟨w.heap.size,0,none⟩ (.slice aC s.cls.length cC)).setCell ⟨w.heap.size,1,none⟩ (.int .u32 x1.j)).setCell ⟨w.heap.size,2,none⟩ (.int .u32 x1.a)).setCell ⟨w.heap.size,3,none⟩ (.slice aT s.treat.length cT)).setCell ⟨w.heap.size,4,none⟩ (.slice aL s.list.length cL)).setCell ⟨w.heap.size+1,0,none⟩ (.int .i64 0)).setCell ⟨w.heap.size+1,1,none⟩ (.int .i64 0))=((set5 w1 w.heap.size (.slice aC s.cls.length cC) (.int .u32 x1.j) (.int .u32 x1.a) (.slice aT s.treat.length cT) (.slice aL s.list.length cL)).setCell ⟨w.heap.size+1,0,none⟩ (.int .i64 0)).setCell ⟨w.heap.size+1,1,none⟩ (.int .i64 0) from rfl]
    generalize set5 w1 w.heap.size (.slice aC s.cls.length cC) (.int .u32 x1.j) (.int .u32 x1.a) (.slice aT s.treat.length cT) (.slice aL s.list.length cL)=W2 at hA2 hB2 hso ⊢
    refine (catch_idle _ _ _).mono ?_
    rintro e u' w3 ⟨rfl,rfl,rfl⟩
    have hB3:((W2.setCell ⟨w.heap.size+1,0,none⟩ (.int .i64 0)).setCell ⟨w.heap.size+1,1,none⟩ (.int .i64 0)).heap[w.heap.size+1]?=some (.cells #[.int .i64 0,.int .i64 0] 32 (0,0)):=heap_setCell_at (heap_setCell_at hB2 _) _
    have hso3:Only (fun b=>b=w.heap.size∨b=w.heap.size+1) w1 ((W2.setCell ⟨w.heap.size+1,0,none⟩ (.int .i64 0)).setCell ⟨w.heap.size+1,1,none⟩ (.int .i64 0)):=((Only.mono (S':=fun b=>b=w.heap.size∨b=w.heap.size+1) hso (fun b e=>Or.inl e)).setCell (p:=⟨w.heap.size+1,0,none⟩) (Or.inr rfl) _).setCell (p:=⟨w.heap.size+1,1,none⟩) (Or.inr rfl) _
    have hA3:((W2.setCell ⟨w.heap.size+1,0,none⟩ (.int .i64 0)).setCell ⟨w.heap.size+1,1,none⟩ (.int .i64 0)).heap[w.heap.size]?=some (.cells #[.slice aC s.cls.length cC,.int .u32 x1.j,.int .u32 x1.a,.slice aT s.treat.length cT,.slice aL s.list.length cL] 45 (0,0)):=(Below.heap_setCell _ _ _ _ (by show ¬ w.heap.size=w.heap.size+1;omega)).trans ((Below.heap_setCell _ _ _ _ (by show ¬ w.heap.size=w.heap.size+1;omega)).trans hA2)
    generalize ((W2.setCell ⟨w.heap.size+1,0,none⟩ (.int .i64 0)).setCell ⟨w.heap.size+1,1,none⟩ (.int .i64 0))=W3 at hB3 hso3 hA3 ⊢
    refine ⟨.tuple #[.agg #[.slice aC s.cls.length cC,.int .u32 x1.j,.int .u32 x1.a,.slice aT s.treat.length cT,.slice aL s.list.length cL],.agg #[.int .i64 0,.int .i64 0]],?_,⟨_,w.heap.size+1+1+1+1,rfl,by omega,HV.out.only hso3 (fun g hg=>by omega)⟩,?_⟩
    · exact results_row_row (fn:=Tryz.f9) (p:=2) (q:=3) (ty:=45) (ty':=32) rfl _ _ w.heap.size 45 _ (0,0) _ rfl hA3 Tryz.underlying45 rfl info37 (w.heap.size+1) 32 _ (0,0) _ rfl hB3 Tryz.underlying32 rfl info40
    · exact ⟨hso3.os.trans HO1.out.os,hso3.tape.trans HO1.out.tape,hso3.output.trans HO1.out.output,Nat.le_trans HO1.out.size hso3.size,fun g hg _=>(hso3.block g (Nat.lt_of_lt_of_le hg HO1.out.size) (by omega)).trans (HO1.out.block g hg (fun e=>e))⟩
end Go.Proofs.YtchaoonefiamdaaGreatDoor
namespace Go.Proofs.YtchaoonefiamdaaGreatDoor
open Go.RowKit Go.Maps
set_option linter.unusedVariables false
set_option linter.unusedSimpArgs false
namespace Rl
inductive Small:Ex→Prop
  | mk (op set:Int) (kids:List Ex):kids.length≤5000→(∀ k∈kids,Small k)→Small (.mk op set kids)
theorem Small.kids {op set:Int} {kids:List Ex} (h:Small (.mk op set kids)):kids.length≤5000∧∀ k∈kids,Small k:=by
  cases h with
  | mk _ _ _ h1 h2=>exact ⟨h1,h2⟩
theorem small_leaf (op set:Int):Small (.mk op set []):=.mk op set [] (by simp) (by simp)
theorem small_one {e:Ex} (op:Int) (h:Small e):Small (.mk op 0 [e]):=.mk op 0 [e] (by simp) (by simpa using h)
theorem small_alt {l:List Ex} (h:∀ k∈l,Small k) (hl:l.length≤5000):Small (mkAlt l):=by
  unfold mkAlt
  split
  · simpa using h
  · exact .mk 3 0 _ hl h
theorem small_seq {l:List Ex} (h:∀ k∈l,Small k) (hl:l.length≤5000):Small (mkSeq l):=by
  unfold mkSeq
  split
  · exact small_leaf 0 0
  · simpa using h
  · exact .mk 2 0 _ hl h
theorem small_often {e e':Ex} {ts ts':List Tk} (h:often e ts=.ok (e',ts')) (he:Small e):Small e':=by
  cases ts with
  | nil=>cases h
  | cons t ts =>
    simp only [often] at h
    split at h
    · cases h
    · split at h
      · cases h;exact small_one 4 he
      · split at h
        · cases h;exact small_one 5 he
        · split at h
          · cases h;exact small_one 6 he
          · cases h;exact he
theorem mem_snoc {l:List Ex} {e:Ex} (h:∀ k∈l,Small k) (he:Small e):∀ k∈l++[e],Small k:=by
  intro k hk
  rcases List.mem_append.1 hk with h1 | h1
  · exact h k h1
  · simp at h1;subst h1;exact he
theorem expr_small (E:Env) (nc:Nat):∀ n,
    (∀ d ts p e ts' p',either E nc n d ts p=.ok (e,ts',p')→p≤200→ts.length≤4900→Small e) ∧
    (∀ d ts p l e ts' p',alts E nc n d ts p l=.ok (e,ts',p')→p≤200→l.length+ts.length≤4950→ts.length≤4900→(∀ k∈l,Small k)→Small e) ∧
    (∀ d ts p l e ts' p',row E nc n d ts p l=.ok (e,ts',p')→p≤200→l.length+ts.length≤4950→ts.length≤4900→(∀ k∈l,Small k)→Small e) ∧
    (∀ d ts p e ts' p',thing E nc n d ts p=.ok (e,ts',p')→p≤200→ts.length≤4900→Small e)
  | 0=>by
    refine ⟨fun _ _ _ _ _ _ h=>?_,fun _ _ _ _ _ _ _ h=>?_,fun _ _ _ _ _ _ _ h=>?_,fun _ _ _ _ _ _ h=>?_⟩ <;> simp [either,alts,row,thing] at h
  | n+1=>by
    obtain ⟨hE,hA,hR,hT⟩:=expr_small E nc n
    obtain ⟨lE,lA,lR,lT⟩:=expr_len E nc n
    refine ⟨fun d ts p e ts' p' h hp hl=>?_,fun d ts p l e ts' p' h hp hl hl2 hk=>?_,fun d ts p l e ts' p' h hp hl hl2 hk=>?_,fun d ts p e ts' p' h hp hl=>?_⟩
    · simp only [either] at h
      split at h
      · cases h
      · rename_i h1
        have a1:=lR _ _ _ _ _ _ _ h1 hp
        have b1:=hR _ _ _ _ _ _ _ h1 hp (by simp;omega) hl (by simp)
        exact hA _ _ _ _ _ _ _ h a1.2 (by simp;omega) (by omega) (by simpa using b1)
    · simp only [alts] at h
      split at h
      · cases h
      · cases h
        exact small_alt hk (by omega)
      · rename_i h1
        split at h
        · cases h
        · rename_i h2
          have a0:=took_len h1
          have a0':=a0.2 rfl
          have a1:=lR _ _ _ _ _ _ _ h2 hp
          have b1:=hR _ _ _ _ _ _ _ h2 hp (by simp;omega) (by omega) (by simp)
          exact hA _ _ _ _ _ _ _ h a1.2 (by simp;omega) (by omega) (mem_snoc hk b1)
    · cases ts with
      | nil=>simp [row,thing] at h
      | cons t ts =>
        simp only [row] at h
        split at h
        · cases h
        · split at h
          · split at h
            · cases h
            · rename_i h1
              split at h
              · cases h
              · rename_i h2
                have a1:=lT _ _ _ _ _ _ h1 hp
                have a2:=often_len h2
                have b1:=hT _ _ _ _ _ _ h1 hp hl2
                simp only [List.length_cons] at hl hl2 a1
                exact hR _ _ _ _ _ _ _ h a1.2 (by simp;omega) (by omega) (mem_snoc hk (small_often h2 b1))
          · cases h
            exact small_seq hk (by simp only [List.length_cons] at hl;omega)
    · cases ts with
      | nil=>simp [row,thing] at h
      | cons t ts =>
        simp only [thing] at h
        simp only [List.length_cons] at hl
        split at h
        · split at h
          · cases h
          · split at h
            · cases h
            · rename_i h1
              split at h
              · cases h
              · rename_i h2
                cases h
                exact hE _ _ _ _ _ _ h1 hp (by omega)
        · split at h
          · cases h
          · rename_i h1
            cases h
            exact small_leaf 1 _
def SmallS (s:St):Prop:=s.places≤200∧∀ r∈s.list,Small r.left∧Small r.right
theorem rule_small {d:Int} {i:Nat} {ts ts':List Tk} {s s':St} (h:rule' d i ts s=.ok (ts',s')) (hs:SmallS s) (hl:ts.length≤4900):SmallS s':=by
  unfold rule' at h
  split at h
  · cases h
  · split at h
    · cases h
    · rename_i h1
      split at h
      · cases h
      · rename_i h2
        split at h
        · cases h
        · rename_i h3
          cases h
          have a1:=(expr_len s.env s.cls.length _).1 _ _ _ _ _ _ h1 hs.1
          have a2:=want_len h2
          have a3:=(expr_len s.env s.cls.length _).1 _ _ _ _ _ _ h3 a1.2
          have b1:=(expr_small s.env s.cls.length _).1 _ _ _ _ _ _ h1 hs.1 hl
          have b3:=(expr_small s.env s.cls.length _).1 _ _ _ _ _ _ h3 a1.2 (by omega)
          refine ⟨a3.2,fun r hr=>?_⟩
          rcases List.mem_append.1 hr with h4 | h4
          · exact hs.2 r h4
          · simp at h4;subst h4;exact ⟨b1,b3⟩
theorem classes_small:∀ (ts:List Tk) (s:St) {ts':List Tk} {s':St},classes ts s=.ok (ts',s')→SmallS s→SmallS s'
  | [],s,_,_,h,_=>by cases h
  | t :: ts,s,ts',s',h,hs=>by
    rw [classes_cons] at h
    split at h
    · cases h
    · split at h
      · split at h
        · cases h
        · split at h
          · cases h
          · exact classes_small ts _ h hs
      · cases h;exact hs
theorem line_small {t:Tk} {ts ts':List Tk} {s s':St} (h:line t ts s=.ok (ts',s')) (hs:SmallS s) (hl:ts.length≤4900):SmallS s':=by
  unfold line at h
  split at h
  · exact classes_small ts s h hs
  · split at h
    · unfold set' at h
      split at h
      · cases h
      · split at h
        · cases h
        · split at h
          · cases h
          · cases h;exact hs
    · split at h
      · unfold join' at h
        split at h
        · cases h
        · split at h
          · cases h
          · split at h
            · cases h
            · cases h;exact hs
      · split at h
        · unfold treat' at h
          split at h
          · cases h
          · split at h
            · cases h
            · split at h
              · cases h
              · cases h;exact hs
        · split at h
          · exact rule_small h hs hl
          · split at h
            · exact rule_small h hs hl
            · split at h
              · exact rule_small h hs hl
              · cases h
theorem lines_small:∀ (n:Nat) (ts:List Tk) (s:St) {s':St},lines n ts s=.ok s'→SmallS s→ts.length≤4900→SmallS s'
  | 0,_,_,_,h,_,_=>by cases h
  | _+1,[],_,_,h,_,_=>by cases h
  | n+1,t :: ts,s,s',h,hs,hl=>by
    simp only [lines] at h
    simp only [List.length_cons] at hl
    split at h
    · cases h
    · split at h
      · cases h;exact hs
      · split at h
        · cases h
        · rename_i h1
          split at h
          · cases h
          · rename_i h2
            have a1:=line_len h1 hs.1
            have a2:=want_len h2
            exact lines_small n _ _ h (line_small h1 hs (by omega)) (by omega)
theorem small_st0:SmallS st0:=⟨by decide,fun r hr=>by cases hr⟩
end Rl
end Go.Proofs.YtchaoonefiamdaaGreatDoor
namespace Go.Proofs.YtchaoonefiamdaaGreatDoor
open Go.RowKit Go.Maps
set_option linter.unusedVariables false
set_option linter.unusedSimpArgs false
set_option linter.unusedVariables false
set_option linter.unusedSimpArgs false
def rd (S:ByteArray) (F:Rl.R Rl.St):Prop:=(4096 < S.size∧F=.error (24,4096))∨(S.size≤4096∧∃ ts,Rl.Strm S.data.toList 0 ts∧F=Rl.lines (ts.length+1) ts Rl.st0)
theorem rd_small {S:ByteArray} {s:Rl.St} (h:rd S (.ok s)):Rl.SmallS s:=by
  rcases h with ⟨_,h⟩ | ⟨hS,ts,hs,h⟩
  · cases h
  · have:=strm_len hs (Nat.zero_le _)
    rw [← Lib.size_eq] at this
    exact Rl.lines_small _ _ _ h.symm Rl.small_st0 (by omega)
set_option maxRecDepth 100000 in
set_option maxHeartbeats 4000000 in
theorem parse_all (S:ByteArray) (F:Rl.R Rl.St) (w:World) (h:rd S F):Calls Tryz.prog 9 #[.string S] w (parseP w F):=by
  rcases h with ⟨hS,rfl⟩ | ⟨hS,ts,hs,rfl⟩
  · have hSi:(4096:Int) < (S.size:Int):=by omega
    go_enter_defers Tryz.func9,Tryz.ntmps9
    go_wp2_with fail
    refine ⟨.tuple #[noRules,.agg #[.int .i64 24,.int .i64 4096]],?_,rfl,((Only.refl (fun _=>False) w).alloc _).alloc _⟩
    exact results_row_row (fn:=Tryz.f9) (p:=2) (q:=3) (ty:=45) (ty':=32) rfl _ _ w.heap.size 45 _ (0,0) _ rfl (heap_alloc2_old w (.cells #[.slice none 0 0,.int .u32 0,.int .u32 0,.slice none 0 0,.slice none 0 0] 45) _) Tryz.underlying45 rfl info37 (w.heap.size+1) 32 _ (0,0) _ rfl (heap_alloc2_new w _ (.cells #[.int .i64 24,.int .i64 4096] 32)) Tryz.underlying32 rfl info40
  · exact parse_any S ts _ w hs hS (by omega)
end Go.Proofs.YtchaoonefiamdaaGreatDoor
namespace Go.Proofs.YtchaoonefiamdaaGreatDoor
open Go.RowKit Go.Maps
set_option linter.unusedVariables false
set_option linter.unusedSimpArgs false
namespace Rl
def toks:Nat→Str→Nat→List Tk
  | 0,_,_=>[]
  | n+1,l,i=>if (tk l i).text=[] then [tk l i] else tk l i :: toks n l ((tk l i).at'+(tk l i).text.length)
theorem strm_toks (l:Str):∀ (n i:Nat),l.length - i < n→i≤l.length→Strm l i (toks n l i)
  | 0,_,h,_=>absurd h (Nat.not_lt_zero _)
  | n+1,i,h,hi=>by
    unfold toks
    by_cases e:(tk l i).text=[]
    · rw [if_pos e]
      exact ⟨rfl,by rw [if_pos e]⟩
    · rw [if_neg e]
      have h1:=tk_end l i hi
      have h2:0 < (tk l i).text.length:=List.length_pos_iff.2 e
      have h3:i≤(tk l i).at':=nx_ge l i
      exact ⟨rfl,by rw [if_neg e];exact strm_toks l n _ (by omega) h1⟩
def plain (l:Str):R St:=lines ((toks (l.length+1) l 0).length+1) (toks (l.length+1) l 0) st0
end Rl
theorem rd_plain {S:ByteArray} (h:S.size≤4096):rd S (Rl.plain S.data.toList):=Or.inr ⟨h,_,Rl.strm_toks _ _ 0 (by omega) (Nat.zero_le _),rfl⟩
theorem rdw {l:Rl.Str} {F:Rl.R Rl.St} (h:Rl.plain l=F) (hl:l.length≤4096):rd ⟨l.toArray⟩ F:=by
  have:=rd_plain (S:=⟨l.toArray⟩) (by show l.toArray.size≤4096;simpa using hl)
  rw [show (⟨l.toArray⟩:ByteArray).data.toList=l from rfl,h] at this
  exact this
end Go.Proofs.YtchaoonefiamdaaGreatDoor
