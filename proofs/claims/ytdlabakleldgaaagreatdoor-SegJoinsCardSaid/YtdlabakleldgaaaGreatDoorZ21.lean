/- P1x Ok A1y Sg1 -/
import Derived.Test.YtdlabakleldgaaaGreatDoorZ00
import Derived.Test.YtdlabakleldgaaaGreatDoorZ20
import Derived.Defers
import Derived.Test.YtdlabakleldgaaaGreatDoorZ18
import Derived.Deep.OwnRows
set_option linter.unusedVariables false
set_option linter.unusedSimpArgs false
set_option maxRecDepth 100000
set_option maxHeartbeats 8000000
namespace Go.Proofs.YtdlabakleldgaaaGreatDoor
open Go.RowKit Go.Maps
theorem fG {P:Program} {fn:Func} {p q:Tmp} {ty ty':TypeId} (h:fn.results=#[.cell p ty,.cell q ty']) (tmps:Array Value) (w:World) (g:Nat) (t:TypeId) (cs:Array Value) (fr:Nat × Nat) (d:TypeDesc)
  (hp:tmps.getD p undef=.pointer (some ⟨g,0,none⟩)) (hg:w.heap[g]?=some (.cells cs t fr))
  (hu:P.underlying ty=some d) (hd:(match d with | .struct _ | .array _ _=>true | _=>false)=true) (hi:(P.info? ty).map (·.size)=some cs.size)
  (g':Nat) (t':TypeId) (cs':Array Value) (fr':Nat × Nat) (d':TypeDesc)
  (hp2:tmps.getD q undef=.pointer (some ⟨g',0,none⟩)) (hg2:w.heap[g']?=some (.cells cs' t' fr'))
  (hu2:P.underlying ty'=some d') (hd2:(match d' with | .struct _ | .array _ _=>true | _=>false)=true) (hi2:(P.info? ty').map (·.size)=some cs'.size):
  (results fn tmps).run P w=.ok (.tuple #[.agg cs,.agg cs']) w:=by
 have hp':tmps[p]?.getD undef=.pointer (some ⟨g,0,none⟩):=by simpa using hp
 have Zt:tmps[q]?.getD undef=.pointer (some ⟨g',0,none⟩):=by simpa using hp2
 simp [results,h,hp',Zt,asAddr,run_loadVar_row w g t ty cs fr d hg hu hd hi,run_loadVar_row w g' t' ty' cs' fr' d' hg2 hu2 hd2 hi2]
theorem CS:(Tryz.prog.info? 49).map (·.size)=some 2:=by kernel_rfl
def Kw (w:World) (F:Rl.R Rl.St) (e:Ending) (w':World):Prop:=
 (match F with
 | .error f=>e=.returned (.tuple #[yh,.agg #[.int .i64 (f.1:Int),.int .i64 (f.2:Int)]])
 | .ok s=>∃v B,e=.returned (.tuple #[v,.agg #[.int .i64 0,.int .i64 0]])∧w.heap.size≤B∧Rv w' B v s)∧Only (fun _=>False) w w'
def MI (mb:Nat):Rd:=⟨.slice none 0 0,0,0,.slice none 0 0,.slice none 0 0,mb,0,0⟩
theorem Mp.made (w:World):Mp (w.alloc (.map #[] 0)) w.heap.size []:=by
 refine⟨.map [],World.ownsMap_made w Tryz.prog 9 (plainElem Tryz.prog 32),?_,fun s=>⟨rfl,rfl⟩⟩
 exact World.ownsMap.isMap (World.ownsMap_made w Tryz.prog 9 (plainElem Tryz.prog 32))
theorem eF.first {w:World} {rb mb:Nat} (hm:Mp w mb []) (hb:mb < rb):eF w rb (MI mb) Rl.st0:=
 ⟨World.ownsRow_nil _ _ _ _,World.ownsRow_nil _ _ _ _,⟨[],World.ownsRow_nil _ _ _ _,trivial⟩,hm,rfl,rfl,rfl,rfl,hb,by decide,by decide,by decide⟩
theorem eF.rv {w:World} {rb:Nat} {x:Rd} {s:Rl.St} {aC aT aL:Option Addr} {cC cT cL:Nat} (h:eF w rb x s) (h1:x.vC=.slice aC s.cls.length cC) (h2:x.vT=.slice aT s.au.length cT) (h3:x.vL=.slice aL s.list.length cL):Rv w (rb+1) (.agg #[.slice aC s.cls.length cC,.int .u32 x.j,.int .u32 x.a,.slice aT s.au.length cT,.slice aL s.list.length cL]) s:=by
 refine⟨aC,aT,aL,cC,cT,cL,by rw [h.jn,h.af],by rw [←h1];exact h.cls,by rw [←h2,h.JH];exact h.vo,by rw [←h3];exact h.iE,h.JH,h.c24,h.Eo⟩
theorem RU (w:World) (a b c d:Obj):((((w.alloc a).alloc b).alloc c).alloc d).heap[w.heap.size]?=some a∧((((w.alloc a).alloc b).alloc c).alloc d).heap[w.heap.size+1]?=some b∧((((w.alloc a).alloc b).alloc c).alloc d).heap[w.heap.size+1+1]?=some c∧((((w.alloc a).alloc b).alloc c).alloc d).heap[w.heap.size+1+1+1]?=some d:=by
 have e1:(w.alloc a).heap.size=w.heap.size+1:=eQ _ _
 have e2:((w.alloc a).alloc b).heap.size=w.heap.size+1+1:=by rw [eQ,e1]
 have e3:(((w.alloc a).alloc b).alloc c).heap.size=w.heap.size+1+1+1:=by rw [eQ,e2]
 refine⟨?_,?_,?_,?_⟩
 ·rw [Below.heap_alloc _ _ _ (by omega),Below.heap_alloc _ _ _ (by omega),Below.heap_alloc _ _ _ (by omega)]
  exact heap_alloc_new w a
 ·rw [Below.heap_alloc _ _ _ (by omega),Below.heap_alloc _ _ _ (by omega),←e1]
  exact heap_alloc_new (w.alloc a) b
 ·rw [Below.heap_alloc _ _ _ (by omega),←e2]
  exact heap_alloc_new ((w.alloc a).alloc b) c
 ·rw [←e3]
  exact heap_alloc_new (((w.alloc a).alloc b).alloc c) d
theorem Mp.RV (w:World) (a b d:Obj):Mp ((((w.alloc a).alloc b).alloc (Obj.map #[] 0)).alloc d) (w.heap.size+1+1) []:=by
 have h:=(Mp.made ((w.alloc a).alloc b)).alloc d
 rw [eQ,eQ] at h
 exact h
theorem qV (S:ByteArray) (ts:List Rl.Tk) (n:Nat) (w:World) (hs:Rl.jg S.data.toList 0 ts) (hS:S.size≤4096) (hn:ts.length < n):
  Calls Tryz.prog 17 #[.string S] w (Kw w (Rl.lines n ts Rl.st0)):=by
 have XZ:¬(4096:Int) <(S.size:Int):=by omega
 have hSd:decide ((4096:Int) <(S.size:Int))=false:=decide_eq_false XZ
 have htl:ts.length≤4097:=by have:=o9 hs (Nat.zero_le _);rw [←Lib.size_eq] at this;omega
 have hmm:=@run_makeMap Tryz.prog
 have hmf:∀(fn:Fn) (first cap:Array Value) (w:World),(Instr.makeFunc fn first cap).run Tryz.prog w=.ok (.func fn first cap) w:=fun _ _ _ _=>rfl
 obtain⟨F,hF⟩:∃F,F=Rl.lines n ts Rl.st0:=⟨_,rfl⟩
 have HF:=zH hF
 rw [←hF]
 have Hs:=zH hs
 clear hF hs
 obtain⟨hA,hB,hM0,hR0⟩:=RU w (Obj.cells #[.slice none 0 0,.int .u32 0,.int .u32 0,.slice none 0 0,.slice none 0 0] 35) (Obj.cells #[.int .i64 0,.int .i64 0] 49) (Obj.map #[] 0) (Obj.cells (Mw S 0 (MI (w.heap.size+1+1))) 82)
 have hMp:=Mp.RV w (Obj.cells #[.slice none 0 0,.int .u32 0,.int .u32 0,.slice none 0 0,.slice none 0 0] 35) (Obj.cells #[.int .i64 0,.int .i64 0] 49) (Obj.cells (Mw S 0 (MI (w.heap.size+1+1))) 82)
 have hO:Only (fun _=>False) w ((((w.alloc (Obj.cells #[.slice none 0 0,.int .u32 0,.int .u32 0,.slice none 0 0,.slice none 0 0] 35)).alloc (Obj.cells #[.int .i64 0,.int .i64 0] 49)).alloc (Obj.map #[] 0)).alloc (Obj.cells (Mw S 0 (MI (w.heap.size+1+1))) 82)):=((((Only.refl (fun _=>False) w).alloc _).alloc _).alloc _).alloc _
 have hL:Calls Tryz.prog 31 #[.pointer (some ⟨w.heap.size+1+1+1,0,none⟩)] ((((w.alloc (Obj.cells #[.slice none 0 0,.int .u32 0,.int .u32 0,.slice none 0 0,.slice none 0 0] 35)).alloc (Obj.cells #[.int .i64 0,.int .i64 0] 49)).alloc (Obj.map #[] 0)).alloc (Obj.cells (Mw S 0 (MI (w.heap.size+1+1))) 82)) (Kv (w.heap.size+1+1+1) S (w.heap.size+1+1) ((((w.alloc (Obj.cells #[.slice none 0 0,.int .u32 0,.int .u32 0,.slice none 0 0,.slice none 0 0] 35)).alloc (Obj.cells #[.int .i64 0,.int .i64 0] 49)).alloc (Obj.map #[] 0)).alloc (Obj.cells (Mw S 0 (MI (w.heap.size+1+1))) 82)) F):=by
  rw [HF.out]
  exact Gn (w.heap.size+1+1+1) S (MI (w.heap.size+1+1)) Rl.st0 ts n ((((w.alloc (Obj.cells #[.slice none 0 0,.int .u32 0,.int .u32 0,.slice none 0 0,.slice none 0 0] 35)).alloc (Obj.cells #[.int .i64 0,.int .i64 0] 49)).alloc (Obj.map #[] 0)).alloc (Obj.cells (Mw S 0 (MI (w.heap.size+1+1))) 82)) ⟨0,hR0,Hs.out,Nat.zero_le _⟩ hS (eF.first hMp (by omega)) (by show 0+ts.length≤5000;omega) hn
 have HL:=zH hL
 have hsz:((((w.alloc (Obj.cells #[.slice none 0 0,.int .u32 0,.int .u32 0,.slice none 0 0,.slice none 0 0] 35)).alloc (Obj.cells #[.int .i64 0,.int .i64 0] 49)).alloc (Obj.map #[] 0)).alloc (Obj.cells (Mw S 0 (MI (w.heap.size+1+1))) 82)).heap.size=w.heap.size+4:=by simp
 have Hk:Hid (∀W,Fr (w.heap.size+1+1+1) (w.heap.size+1+1) ((((w.alloc (Obj.cells #[.slice none 0 0,.int .u32 0,.int .u32 0,.slice none 0 0,.slice none 0 0] 35)).alloc (Obj.cells #[.int .i64 0,.int .i64 0] 49)).alloc (Obj.map #[] 0)).alloc (Obj.cells (Mw S 0 (MI (w.heap.size+1+1))) 82)) W→W.heap[w.heap.size]?=some (Obj.cells #[.slice none 0 0,.int .u32 0,.int .u32 0,.slice none 0 0,.slice none 0 0] 35)∧W.heap[w.heap.size+1]?=some (Obj.cells #[.int .i64 0,.int .i64 0] 49)∧Only (fun _=>False) w W):=fun W hf=>⟨(hf.1.block _ (by rw [hsz];omega) (by unfold Lo;omega)).trans hA,(hf.1.block _ (by rw [hsz];omega) (by unfold Lo;omega)).trans hB,⟨hf.1.os.trans hO.os,hf.1.tape.trans hO.tape,hf.1.output.trans hO.output,Nat.le_trans hO.size hf.1.size,fun g hg _=>(hf.1.block g (by rw [hsz];omega) (by unfold Lo;omega)).trans (hO.block g hg (fun e=>e))⟩⟩
 clear hA hB hM0 hR0 hMp hO hL hsz HF
 cases F with
 | error f=>
  go_enter_defers Tryz.func17,Tryz.ntmps17
  go_wp2_with (go_at_call 31;refine HL.out.mono ?_;rintro e w1 ⟨rfl,hf1⟩;have VE:=Hk.out w1 hf1;clear hf1)
  obtain⟨hA1,hB1,Cv⟩:=VE
  refine leaves_cons (f:=30) (args:=#[.pointer (some ⟨w.heap.size,0,none⟩),.pointer (some ⟨w.heap.size+1,0,none⟩)]) (by simp) (by simp [go_sem]) ?_
  refine (yg w.heap.size (w.heap.size+1) (f.1:Int) (f.2:Int) _ _ _ _ _ _ _ [] _ hA1 hB1 (by omega)).mono ?_
  rintro e u' w2 ⟨rfl,rfl,hA2,hB2,ho2⟩
  have hO2:Only (fun _=>False) w w2:=⟨ho2.os.trans Cv.os,ho2.tape.trans Cv.tape,ho2.output.trans Cv.output,Nat.le_trans Cv.size ho2.size,fun g hg _=>(ho2.block g (Nat.lt_of_lt_of_le hg Cv.size) (by omega)).trans (Cv.block g hg (fun e=>e))⟩
  refine⟨.tuple #[yh,.agg #[.int .i64 (f.1:Int),.int .i64 (f.2:Int)]],?_,rfl,hO2⟩
  exact fG (fn:=Tryz.f17) (p:=2) (q:=3) (ty:=35) (ty':=49) rfl _ _ w.heap.size 35 _ (0,0) _ rfl hA2 Tryz.underlying35 rfl CR (w.heap.size+1) 49 _ (0,0) _ rfl hB2 Tryz.underlying49 rfl CS
 | ok s=>
  go_enter_defers Tryz.func17,Tryz.ntmps17
  go_wp2_with (go_at_call 31;refine HL.out.mono ?_;rintro e w1 ⟨rfl,x1,hx1,⟨i1,az⟩,hS1,hf1⟩;obtain⟨hA1,hB1,Cv⟩:=Hk.out w1 hf1;have HA1:Hid _:=hA1;have HB1:Hid _:=hB1;have bu:=zH Cv;obtain⟨aC,cC,vS⟩:=ah hS1.cls;obtain⟨aT,cT,vw⟩:=ah hS1.vo;obtain⟨ys,hoL,_⟩:=hS1.iE;obtain⟨aL,cL,Ev⟩:=ah hoL;have NT:=hS1.JH;rw [←NT] at vw;have d2:=az.c2;rw [vS] at d2;have d3:=az.c3;have d4:=az.c4;have d5:=az.c5;rw [vw] at d5;have d6:=az.c6;rw [Ev] at d6;have HV:Hid (Rv w1 (w.heap.size+1+1+1+1) (.agg #[.slice aC s.cls.length cC,.int .u32 x1.j,.int .u32 x1.a,.slice aT s.au.length cT,.slice aL s.list.length cL]) s):=hS1.rv vS vw Ev;have hl1:=az.lt;clear az hS1 hf1 hA1 hB1 Cv vS vw Ev hoL NT hx1;have z0:w1.cell? ⟨w.heap.size,0,none⟩=some (.slice none 0 0):=(cell_of_row _ _ _ _ _ _ HA1.out).trans rfl;have wJ:w1.frozen? ⟨w.heap.size,0,none⟩=false:=(by simp [World.frozen?,HA1.out]);have z1:w1.cell? ⟨w.heap.size,1,none⟩=some (.int .u32 0):=(cell_of_row _ _ _ _ _ _ HA1.out).trans rfl;have wK:w1.frozen? ⟨w.heap.size,1,none⟩=false:=(by simp [World.frozen?,HA1.out]);have z2:w1.cell? ⟨w.heap.size,2,none⟩=some (.int .u32 0):=(cell_of_row _ _ _ _ _ _ HA1.out).trans rfl;have wL:w1.frozen? ⟨w.heap.size,2,none⟩=false:=(by simp [World.frozen?,HA1.out]);have z3:w1.cell? ⟨w.heap.size,3,none⟩=some (.slice none 0 0):=(cell_of_row _ _ _ _ _ _ HA1.out).trans rfl;have zf3:w1.frozen? ⟨w.heap.size,3,none⟩=false:=(by simp [World.frozen?,HA1.out]);have z4:w1.cell? ⟨w.heap.size,4,none⟩=some (.slice none 0 0):=(cell_of_row _ _ _ _ _ _ HA1.out).trans rfl;have zf4:w1.frozen? ⟨w.heap.size,4,none⟩=false:=(by simp [World.frozen?,HA1.out]);have y0:w1.cell? ⟨w.heap.size+1,0,none⟩=some (.int .i64 0):=(cell_of_row _ _ _ _ _ _ HB1.out).trans rfl;have yf0:w1.frozen? ⟨w.heap.size+1,0,none⟩=false:=(by simp [World.frozen?,HB1.out]);have y1:w1.cell? ⟨w.heap.size+1,1,none⟩=some (.int .i64 0):=(cell_of_row _ _ _ _ _ _ HB1.out).trans rfl;have yf1:w1.frozen? ⟨w.heap.size+1,1,none⟩=false:=(by simp [World.frozen?,HB1.out]))
  have hA2:=tH HA1.out (.slice aC s.cls.length cC) (.int .u32 x1.j) (.int .u32 x1.a) (.slice aT s.au.length cT) (.slice aL s.list.length cL)
  have hB2:(vM w1 w.heap.size (.slice aC s.cls.length cC) (.int .u32 x1.j) (.int .u32 x1.a) (.slice aT s.au.length cT) (.slice aL s.list.length cL)).heap[w.heap.size+1]?=some (.cells #[.int .i64 0,.int .i64 0] 49 (0,0)):=((jb _ _ _ _ _ _ _).block _ (by omega) (by omega)).trans HB1.out
  have hso:=jb w1 w.heap.size (.slice aC s.cls.length cC) (.int .u32 x1.j) (.int .u32 x1.a) (.slice aT s.au.length cT) (.slice aL s.list.length cL)
  refine leaves_cons (f:=30) (args:=#[.pointer (some ⟨w.heap.size,0,none⟩),.pointer (some ⟨w.heap.size+1,0,none⟩)]) (by simp) (by simp [go_sem]) ?_
  rw [show (((((((w1.setCell ⟨w.heap.size,0,none⟩ (.slice aC s.cls.length cC)).setCell ⟨w.heap.size,1,none⟩ (.int .u32 x1.j)).setCell ⟨w.heap.size,2,none⟩ (.int .u32 x1.a)).setCell ⟨w.heap.size,3,none⟩ (.slice aT s.au.length cT)).setCell ⟨w.heap.size,4,none⟩ (.slice aL s.list.length cL)).setCell ⟨w.heap.size+1,0,none⟩ (.int .i64 0)).setCell ⟨w.heap.size+1,1,none⟩ (.int .i64 0))=((vM w1 w.heap.size (.slice aC s.cls.length cC) (.int .u32 x1.j) (.int .u32 x1.a) (.slice aT s.au.length cT) (.slice aL s.list.length cL)).setCell ⟨w.heap.size+1,0,none⟩ (.int .i64 0)).setCell ⟨w.heap.size+1,1,none⟩ (.int .i64 0) from rfl]
  generalize vM w1 w.heap.size (.slice aC s.cls.length cC) (.int .u32 x1.j) (.int .u32 x1.a) (.slice aT s.au.length cT) (.slice aL s.list.length cL)=W2 at hA2 hB2 hso ⊢
  refine (CP _ _ _).mono ?_
  rintro e u' w3 ⟨rfl,rfl,rfl⟩
  have hB3:((W2.setCell ⟨w.heap.size+1,0,none⟩ (.int .i64 0)).setCell ⟨w.heap.size+1,1,none⟩ (.int .i64 0)).heap[w.heap.size+1]?=some (.cells #[.int .i64 0,.int .i64 0] 49 (0,0)):=aa (aa hB2 _) _
  have CU:Only (fun b=>b=w.heap.size∨b=w.heap.size+1) w1 ((W2.setCell ⟨w.heap.size+1,0,none⟩ (.int .i64 0)).setCell ⟨w.heap.size+1,1,none⟩ (.int .i64 0)):=((Only.mono (S':=fun b=>b=w.heap.size∨b=w.heap.size+1) hso (fun b e=>Or.inl e)).setCell (p:=⟨w.heap.size+1,0,none⟩) (Or.inr rfl) _).setCell (p:=⟨w.heap.size+1,1,none⟩) (Or.inr rfl) _
  have hA3:((W2.setCell ⟨w.heap.size+1,0,none⟩ (.int .i64 0)).setCell ⟨w.heap.size+1,1,none⟩ (.int .i64 0)).heap[w.heap.size]?=some (.cells #[.slice aC s.cls.length cC,.int .u32 x1.j,.int .u32 x1.a,.slice aT s.au.length cT,.slice aL s.list.length cL] 35 (0,0)):=(Below.heap_setCell _ _ _ _ (by show ¬ w.heap.size=w.heap.size+1;omega)).trans ((Below.heap_setCell _ _ _ _ (by show ¬ w.heap.size=w.heap.size+1;omega)).trans hA2)
  generalize ((W2.setCell ⟨w.heap.size+1,0,none⟩ (.int .i64 0)).setCell ⟨w.heap.size+1,1,none⟩ (.int .i64 0))=W3 at hB3 CU hA3 ⊢
  refine⟨.tuple #[.agg #[.slice aC s.cls.length cC,.int .u32 x1.j,.int .u32 x1.a,.slice aT s.au.length cT,.slice aL s.list.length cL],.agg #[.int .i64 0,.int .i64 0]],?_,⟨_,w.heap.size+1+1+1+1,rfl,by omega,HV.out.only CU (fun g hg=>by omega)⟩,?_⟩
  ·exact fG (fn:=Tryz.f17) (p:=2) (q:=3) (ty:=35) (ty':=49) rfl _ _ w.heap.size 35 _ (0,0) _ rfl hA3 Tryz.underlying35 rfl CR (w.heap.size+1) 49 _ (0,0) _ rfl hB3 Tryz.underlying49 rfl CS
  ·exact⟨CU.os.trans bu.out.os,CU.tape.trans bu.out.tape,CU.output.trans bu.out.output,Nat.le_trans bu.out.size CU.size,fun g hg _=>(CU.block g (Nat.lt_of_lt_of_le hg bu.out.size) (by omega)).trans (bu.out.block g hg (fun e=>e))⟩
namespace Rl
inductive Small:Ex→Prop
 | mk (op set:Int) (kids:List Ex):kids.length≤5000→(∀k∈kids,Small k)→Small (.mk op set kids)
theorem Small.kids {op set:Int} {kids:List Ex} (h:Small (.mk op set kids)):kids.length≤5000∧∀k∈kids,Small k:=by
 cases h with
 | mk _ _ _ h1 h2=>exact⟨h1,h2⟩
theorem uC (op set:Int):Small (.mk op set []):=.mk op set [] (by simp) (by simp)
theorem qW {e:Ex} (op:Int) (h:Small e):Small (.mk op 0 [e]):=.mk op 0 [e] (by simp) (by simpa using h)
theorem Gp {l:List Ex} (h:∀k∈l,Small k) (hl:l.length≤5000):Small (mO l):=by
 unfold mO
 split
 ·simpa using h
 ·exact .mk 3 0 _ hl h
theorem Gq {l:List Ex} (h:∀k∈l,Small k) (hl:l.length≤5000):Small (mkSeq l):=by
 unfold mkSeq
 split
 ·exact uC 0 0
 ·simpa using h
 ·exact .mk 2 0 _ hl h
theorem Ad {e e':Ex} {ts ts':List Tk} (h:often e ts=.ok (e',ts')) (he:Small e):Small e':=by
 cases ts with
 | nil=>cases h
 | cons t ts=>
  simp only [often] at h
  split at h
  ·cases h
  ·split at h
   ·cases h;exact qW 4 he
   ·split at h
    ·cases h;exact qW 5 he
    ·split at h
     ·cases h;exact qW 6 he
     ·cases h;exact he
theorem Ae {l:List Ex} {e:Ex} (h:∀k∈l,Small k) (he:Small e):∀k∈l++[e],Small k:=by
 intro k hk
 rcases List.mem_append.1 hk with h1 | h1
 ·exact h k h1
 ·simp at h1;subst h1;exact he
theorem nV (E:Env) (nc:Nat):∀n,
  (∀d ts p e ts' p',either E nc n d ts p=.ok (e,ts',p')→p≤200→ts.length≤4900→Small e)∧
  (∀d ts p l e ts' p',alts E nc n d ts p l=.ok (e,ts',p')→p≤200→l.length+ts.length≤4950→ts.length≤4900→(∀k∈l,Small k)→Small e)∧
  (∀d ts p l e ts' p',row E nc n d ts p l=.ok (e,ts',p')→p≤200→l.length+ts.length≤4950→ts.length≤4900→(∀k∈l,Small k)→Small e)∧
  (∀d ts p e ts' p',thing E nc n d ts p=.ok (e,ts',p')→p≤200→ts.length≤4900→Small e)
 | 0=>by
  refine⟨fun _ _ _ _ _ _ h=>?_,fun _ _ _ _ _ _ _ h=>?_,fun _ _ _ _ _ _ _ h=>?_,fun _ _ _ _ _ _ h=>?_⟩ <;> simp [either,alts,row,thing] at h
 | n+1=>by
  obtain⟨hE,hA,hR,hT⟩:=nV E nc n
  obtain⟨lE,lA,lR,lT⟩:=bF E nc n
  refine⟨fun d ts p e ts' p' h hp hl=>?_,fun d ts p l e ts' p' h hp hl hl2 hk=>?_,fun d ts p l e ts' p' h hp hl hl2 hk=>?_,fun d ts p e ts' p' h hp hl=>?_⟩
  ·simp only [either] at h
   split at h
   ·cases h
   ·rename_i h1
    have a1:=lR _ _ _ _ _ _ _ h1 hp
    have b1:=hR _ _ _ _ _ _ _ h1 hp (by simp;omega) hl (by simp)
    exact hA _ _ _ _ _ _ _ h a1.2 (by simp;omega) (by omega) (by simpa using b1)
  ·simp only [alts] at h
   split at h
   ·cases h
   ·cases h
    exact Gp hk (by omega)
   ·rename_i h1
    split at h
    ·cases h
    ·rename_i h2
     have a0:=kz h1
     have a0':=a0.2 rfl
     have a1:=lR _ _ _ _ _ _ _ h2 hp
     have b1:=hR _ _ _ _ _ _ _ h2 hp (by simp;omega) (by omega) (by simp)
     exact hA _ _ _ _ _ _ _ h a1.2 (by simp;omega) (by omega) (Ae hk b1)
  ·cases ts with
   | nil=>simp [row,thing] at h
   | cons t ts=>
    simp only [row] at h
    split at h
    ·cases h
    ·split at h
     ·split at h
      ·cases h
      ·rename_i h1
       split at h
       ·cases h
       ·rename_i h2
        have a1:=lT _ _ _ _ _ _ h1 hp
        have a2:=qN h2
        have b1:=hT _ _ _ _ _ _ h1 hp hl2
        simp only [List.length_cons] at hl hl2 a1
        exact hR _ _ _ _ _ _ _ h a1.2 (by simp;omega) (by omega) (Ae hk (Ad h2 b1))
     ·cases h
      exact Gq hk (by simp only [List.length_cons] at hl;omega)
  ·cases ts with
   | nil=>simp [row,thing] at h
   | cons t ts=>
    simp only [thing] at h
    simp only [List.length_cons] at hl
    split at h
    ·split at h
     ·cases h
     ·split at h
      ·cases h
      ·rename_i h1
       split at h
       ·cases h
       ·rename_i h2
        cases h
        exact hE _ _ _ _ _ _ h1 hp (by omega)
    ·split at h
     ·cases h
     ·rename_i h1
      cases h
      exact uC 1 _
def iM (s:St):Prop:=s.places≤200∧∀r∈s.list,Small r.left∧Small r.right
theorem n_ {d:Int} {i:Nat} {ts ts':List Tk} {s s':St} (h:bV d i ts s=.ok (ts',s')) (hs:iM s) (hl:ts.length≤4900):iM s':=by
 unfold bV at h
 split at h
 ·cases h
 ·split at h
  ·cases h
  ·rename_i h1
   split at h
   ·cases h
   ·rename_i h2
    split at h
    ·cases h
    ·rename_i h3
     cases h
     have a1:=(bF s.env s.cls.length _).1 _ _ _ _ _ _ h1 hs.1
     have a2:=dY h2
     have a3:=(bF s.env s.cls.length _).1 _ _ _ _ _ _ h3 a1.2
     have b1:=(nV s.env s.cls.length _).1 _ _ _ _ _ _ h1 hs.1 hl
     have b3:=(nV s.env s.cls.length _).1 _ _ _ _ _ _ h3 a1.2 (by omega)
     refine⟨a3.2,fun r hr=>?_⟩
     rcases List.mem_append.1 hr with h4 | h4
     ·exact hs.2 r h4
     ·simp at h4;subst h4;exact⟨b1,b3⟩
theorem ny:∀(ts:List Tk) (s:St) {ts':List Tk} {s':St},classes ts s=.ok (ts',s')→iM s→iM s'
 | [],s,_,_,h,_=>by cases h
 | t::ts,s,ts',s',h,hs=>by
  rw [fT] at h
  split at h
  ·cases h
  ·split at h
   ·split at h
    ·cases h
    ·split at h
     ·cases h
     ·exact ny ts _ h hs
   ·cases h;exact hs
theorem CV {t:Tk} {ts ts':List Tk} {s s':St} (h:line t ts s=.ok (ts',s')) (hs:iM s) (hl:ts.length≤4900):iM s':=by
 unfold line at h
 split at h
 ·exact ny ts s h hs
 ·split at h
  ·unfold set' at h
   split at h
   ·cases h
   ·split at h
    ·cases h
    ·split at h
     ·cases h
     ·cases h;exact hs
  ·split at h
   ·unfold join' at h
    split at h
    ·cases h
    ·split at h
     ·cases h
     ·split at h
      ·cases h
      ·cases h;exact hs
   ·split at h
    ·unfold dV at h
     split at h
     ·cases h
     ·split at h
      ·cases h
      ·split at h
       ·cases h
       ·cases h;exact hs
    ·split at h
     ·exact n_ h hs hl
     ·split at h
      ·exact n_ h hs hl
      ·split at h
       ·exact n_ h hs hl
       ·cases h
theorem rX:∀(n:Nat) (ts:List Tk) (s:St) {s':St},lines n ts s=.ok s'→iM s→ts.length≤4900→iM s'
 | 0,_,_,_,h,_,_=>by cases h
 | _+1,[],_,_,h,_,_=>by cases h
 | n+1,t::ts,s,s',h,hs,hl=>by
  simp only [lines] at h
  simp only [List.length_cons] at hl
  split at h
  ·cases h
  ·split at h
   ·cases h;exact hs
   ·split at h
    ·cases h
    ·rename_i h1
     split at h
     ·cases h
     ·rename_i h2
      have a1:=Ac h1 hs.1
      have a2:=dY h2
      exact rX n _ _ h (CV h1 hs (by omega)) (by omega)
theorem Gr:iM st0:=⟨by decide,fun r hr=>by cases hr⟩
end Rl
def rd (S:ByteArray) (F:Rl.R Rl.St):Prop:=(4096 < S.size∧F=.error (24,4096))∨(S.size≤4096∧∃ts,Rl.jg S.data.toList 0 ts∧F=Rl.lines (ts.length+1) ts Rl.st0)
theorem rd_some (S:ByteArray):∃F,rd S F:=by
 by_cases h:4096 < S.size
 ·exact⟨_,Or.inl ⟨h,rfl⟩⟩
 ·obtain⟨ts,hs⟩:=Rl.qE S.data.toList (S.data.toList.length+1) 0 (by omega) (Nat.zero_le _)
  exact⟨_,Or.inr ⟨by omega,ts,hs,rfl⟩⟩
theorem uD {S:ByteArray} {s:Rl.St} (h:rd S (.ok s)):Rl.iM s:=by
 rcases h with ⟨_,h⟩ | ⟨hS,ts,hs,h⟩
 ·cases h
 ·have:=o9 hs (Nat.zero_le _)
  rw [←Lib.size_eq] at this
  exact Rl.rX _ _ _ h.symm Rl.Gr (by omega)
theorem Gs (S:ByteArray) (F:Rl.R Rl.St) (w:World) (h:rd S F):Calls Tryz.prog 17 #[.string S] w (Kw w F):=by
 rcases h with ⟨hS,rfl⟩ | ⟨hS,ts,hs,rfl⟩
 ·have XZ:(4096:Int) <(S.size:Int):=by omega
  go_enter_defers Tryz.func17,Tryz.ntmps17
  go_wp2_with fail
  refine⟨.tuple #[yh,.agg #[.int .i64 24,.int .i64 4096]],?_,rfl,((Only.refl (fun _=>False) w).alloc _).alloc _⟩
  exact fG (fn:=Tryz.f17) (p:=2) (q:=3) (ty:=35) (ty':=49) rfl _ _ w.heap.size 35 _ (0,0) _ rfl (heap_alloc2_old w (.cells #[.slice none 0 0,.int .u32 0,.int .u32 0,.slice none 0 0,.slice none 0 0] 35) _) Tryz.underlying35 rfl CR (w.heap.size+1) 49 _ (0,0) _ rfl (heap_alloc2_new w _ (.cells #[.int .i64 24,.int .i64 4096] 49)) Tryz.underlying49 rfl CS
 ·exact qV S ts _ w hs hS (by omega)
end Go.Proofs.YtdlabakleldgaaaGreatDoor
namespace Go.Proofs.YtdlabakleldgaaaGreatDoor
open Go.RowKit Go.Maps
namespace Rl
def toks:Nat→Str→Nat→List Tk
 | 0,_,_=>[]
 | n+1,l,i=>if (tk l i).text=[] then [tk l i] else tk l i::toks n l ((tk l i).at'+(tk l i).text.length)
theorem wX (l:Str):∀(n i:Nat),l.length - i < n→i≤l.length→jg l i (toks n l i)
 | 0,_,h,_=>absurd h (Nat.not_lt_zero _)
 | n+1,i,h,hi=>by
  unfold toks
  by_cases e:(tk l i).text=[]
  ·rw [if_pos e]
   exact⟨rfl,by rw [if_pos e]⟩
  ·rw [if_neg e]
   have h1:=xK l i hi
   have h2:0 <(tk l i).text.length:=List.length_pos_iff.2 e
   have h3:i≤(tk l i).at':=IG l i
   exact⟨rfl,by rw [if_neg e];exact wX l n _ (by omega) h1⟩
def plain (l:Str):R St:=lines ((toks (l.length+1) l 0).length+1) (toks (l.length+1) l 0) st0
end Rl
theorem Ky {S:ByteArray} (h:S.size≤4096):rd S (Rl.plain S.data.toList):=Or.inr ⟨h,_,Rl.wX _ _ 0 (by omega) (Nat.zero_le _),rfl⟩
theorem Zu {l:Rl.Str} {F:Rl.R Rl.St} (h:Rl.plain l=F) (hl:l.length≤4096):rd ⟨l.toArray⟩ F:=by
 have:=Ky (S:=⟨l.toArray⟩) (by show l.toArray.size≤4096;simpa using hl)
 rw [show (⟨l.toArray⟩:ByteArray).data.toList=l from rfl,h] at this
 exact this
theorem CW:(Tryz.prog.info? 45).map (fun i=>(i.zero,i.size,i.bytes))=some (some (.int .u8 0),1,1):=by kernel_rfl
def NU (l:List Int):Array Value:=(l.map (fun x=>Value.int .u8 x)).toArray
theorem RX (l:List Int) (i:Nat):(NU l)[i]?=l[i]?.map (fun x=>Value.int .u8 x):=by simp [NU]
theorem NV (l:List Int) (i:Nat) (x:Int):(NU l).setIfInBounds i (.int .u8 x)=NU (l.set i x):=by
 unfold NU
 rw [List.setIfInBounds_toArray,List.map_set]
theorem yj (n:Nat):madeCells #[.int .u8 0] n=NU (List.replicate n 0):=by
 apply Array.ext
 ·simp [NU,size_madeCells]
 ·intro i h1 h2
  simp [madeCells,NU,Nat.mod_one]
def Ub (w:World) (b:Nat) (l:List Int):Prop:=w.heap[b]?=some (.cells (NU l) 45 (0,0))
theorem Ub.set {w:World} {b:Nat} {l:List Int} (h:Ub w b l) (i:Nat) (x:Int):Ub (w.setCell ⟨b,i,none⟩ (.int .u8 x)) b (l.set i x):=by
 have:=aa (k:=i) h (.int .u8 x)
 rw [NV] at this
 exact this
theorem Ub.lt {w:World} {b:Nat} {l:List Int} (h:Ub w b l):b < w.heap.size:=(Array.getElem?_eq_some_iff.1 h).1
theorem Ub.cell {w:World} {b i:Nat} {x:Int} {l:List Int} (h:Ub w b l) (hx:l[i]?=some x):w.cell? ⟨b,i,none⟩=some (.int .u8 x):=by
 rw [ae h,RX,hx]
 rfl
theorem Ub.fz {w:World} {b:Nat} {l:List Int} (h:Ub w b l) (i:Nat):w.frozen? ⟨b,i,none⟩=false:=ak h i
def ik (l:List Int) (k:Nat):List Int:=l.take k++List.replicate (l.length - k) 0
theorem pO {l:List Int} {k:Nat} (h:k≤l.length):(ik l k).length=l.length:=by simp [ik];omega
theorem lK (l:List Int):ik l 0=List.replicate l.length 0:=by simp [ik]
theorem lM (l:List Int):ik l l.length=l:=by simp [ik]
theorem pQ {l:List Int} {k:Nat} {x:Int} (h:l[k]?=some x):(ik l k).set k x=ik l (k+1):=by
 obtain⟨hl,rfl⟩:=List.getElem?_eq_some_iff.1 h
 unfold ik
 rw [List.set_append_right _ _ (by simp;omega),List.length_take,Nat.min_eq_left (by omega),Nat.sub_self,show l.length - k=(l.length -(k+1))+1 by omega,List.replicate_succ,List.set_cons_zero,List.take_add_one,List.getElem?_eq_getElem hl]
 simp only [Option.toList,List.append_assoc,List.cons_append,List.nil_append]
theorem CX (l:List Rl.fD) (B:Nat) (a:Option Addr) (c:Nat) (w:World) (hL:BI w B (.slice a l.length c) l) (hn:l.length≤24):
  Calls Tryz.prog 37 #[.slice a l.length c] w fun e w'=>∃b,e=.returned (.slice (some ⟨b,0,none⟩) l.length l.length)∧w.heap.size≤b∧Ub w' b (l.map (·.does))∧Only (fun _=>False) w w':=by
 have HL:=zH hL
 obtain⟨n,hnl⟩:∃n,n=l.length:=⟨_,rfl⟩
 have jZ:=zH hnl
 rw [←hnl] at hn hL ⊢
 clear hL hnl
 have hmk:=fun (w:World)=>run_make_row' (P:=Tryz.prog) 40 45 (.int .u8 0) 1 Tryz.underlying40 CW rfl .i64 .i64 n (by omega) (by omega) w
 go_enter Tryz.func37,Tryz.ntmps37
 go_wp2_with fail
 go_loopg [11] n (fun gh v wr=>∃(k:Nat) (W:World),W=wr∧gh=n - k∧k≤n∧v=.int .i64 (k:Int)∧Ub W w.heap.size (ik (l.map (·.does)) k)∧Only (fun _=>False) w W)
 case atStart=>
  refine⟨0,_,rfl,rfl,Nat.zero_le _,rfl,?_,(Only.refl _ _).alloc _⟩
  rw [lK,List.length_map,←jZ.out]
  unfold Ub
  rw [←yj]
  exact heap_alloc_new w _
 case round=>
  obtain⟨k,W,hW,rfl,hk,rfl,hU,ho⟩:=hrel
  subst hW
  have HU:=zH hU
  have HO:=zH ho
  have lub:=hU.lt
  by_cases hlt:k < n
  ·have t1:(k:Int) <(n:Int):=by omega
   obtain⟨r,hr⟩:∃r,l[k]?=some r:=⟨_,List.getElem?_eq_getElem (by rw [←jZ.out];exact hlt)⟩
   have hd:(l.map (·.does))[k]?=some r.does:=by rw [List.getElem?_map,hr];rfl
   have HD:=zH hd
   obtain⟨g,op,st,a1,n1,cap,op',st',a1',n1',cap',rfl,hg,e0,e1,e2,e3,_,e4,e5,e6,_⟩:=BI.get HL.out hr
   have hgW:W.heap[g]?=w.heap[g]?:=ho.block g hg (fun h=>h)
   have q0:=(World.cell?_of_block (a:=⟨g,k*7,none⟩) hgW).trans e0
   have q1:=(World.cell?_of_block (a:=⟨g,k*7+1,none⟩) hgW).trans e1
   have q2:=(World.cell?_of_block (a:=⟨g,k*7+2,none⟩) hgW).trans e2
   have q3:=(World.cell?_of_block (a:=⟨g,k*7+3,none⟩) hgW).trans e3
   have q4:=(World.cell?_of_block (a:=⟨g,k*7+4,none⟩) hgW).trans e4
   have q5:=(World.cell?_of_block (a:=⟨g,k*7+5,none⟩) hgW).trans e5
   have q6:=(World.cell?_of_block (a:=⟨g,k*7+6,none⟩) hgW).trans e6
   have lg:g < W.heap.size:=Nat.lt_of_lt_of_le hg ho.size
   obtain⟨x,hx⟩:∃x,(ik (l.map (·.does)) k)[k]?=some x:=⟨_,List.getElem?_eq_getElem (by rw [pO (by rw [List.length_map,←jZ.out];exact hk),List.length_map,←jZ.out];exact hlt)⟩
   have u0:=hU.cell hx
   have u1:∀x,W.frozen? ⟨w.heap.size,x,none⟩=false:=fun x=>hU.fz x
   clear hU ho hd hr hgW e0 e1 e2 e3 e4 e5 e6 hx hmk
   go_wp2_with fail
   go_roundg (n -(k+1))
   case measure=>omega
   case rel=>
    refine⟨k+1,_,rfl,rfl,by omega,by go_num,?_,(HO.out.aS (p:=⟨w.heap.size,k,none⟩) (Nat.le_refl _) _).alloc _⟩
    have hs:=HU.out.set k r.does
    rw [pQ HD.out] at hs
    exact (Below.heap_alloc _ _ _ hs.lt).trans hs
  ·have t2:decide ((k:Int) <(n:Int))=false:=decide_eq_false (by omega)
   have hkn:k=n:=by omega
   subst hkn
   clear hU ho hmk
   go_wp2_with fail
   go_ret
   refine⟨w.heap.size,rfl,Nat.le_refl _,?_,HO.out⟩
   have:=HU.out
   rw [show ik (l.map (·.does)) k=l.map (·.does) by have:=lM (l.map (·.does));rw [List.length_map,←jZ.out] at this;exact this] at this
   exact this
end Go.Proofs.YtdlabakleldgaaaGreatDoor
