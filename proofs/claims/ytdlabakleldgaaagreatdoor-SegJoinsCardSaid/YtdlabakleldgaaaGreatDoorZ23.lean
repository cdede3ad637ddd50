/- Tn3 Tn4 Tn5 LHm -/
import Derived.Test.YtdlabakleldgaaaGreatDoorZ22
import Derived.Laws.CopyOwn
import Derived.Laws.MakeOwn
import Derived.Test.YtdlabakleldgaaaGreatDoorZ00
import Derived.WalkSmall
set_option linter.unusedVariables false
set_option linter.unusedSimpArgs false
set_option maxRecDepth 100000
set_option maxHeartbeats 8000000
namespace Go.Proofs.YtdlabakleldgaaaGreatDoor
open Go.RowKit Go.Maps
open Rl (Ex)
theorem Gx {P:Program} (w:World) (dT sT ty elem:TypeId) (g n dCap:Nat) (a:Addr) (sCap:Nat) (cur:Array Value) (t:TypeId) (cs:List Value)
  (hu:P.underlying dT=some (.slice elem)) (hs:(P.info? elem).map (·.size)=some 3)
  (hg:w.heap[g]?=some (.cells cur t (0,0))) (hn:cs.length=n*3)
  (hsrc:∀j v,cs[j]?=some v→w.cell? (a.add j)=some v) (hfit:cur.size=n*3) (h1:∀v∈cs,v.oneCell'=true):
  (Builtin.copy_ #[dT,sT] ty #[.slice (some ⟨g,0,none⟩) n dCap,.slice (some a) n sCap]).run P w=
   .ok (goInt n) (w.setRow g cs.toArray):=by
 have hl:=run_loadCells_list (P:=P) w a cs hsrc
 have hst:=run_storeCells_at P g 0 t cs 0 cur w hg (by omega) h1
 have e:(cur.toList.take (0+0)++cs++cur.toList.drop (0+0+cs.length))=cs:=by
  rw [List.drop_eq_nil_of_le (by simp;omega)]
  simp
 rw [e] at hst
 cases hq:P.info? elem with
 | none=>simp [hq] at hs
 | some i=>
  have hi:i.size=3:=by simpa [hq] using hs
  rw [hn] at hl
  simp [Builtin.copy_,run_underlying hu,Builtin.lenOf,Builtin.firstCells,sizeOf,typeInfo,hq,hi,hl,hst]
def pR (t:Nat→X3):Nat→List Value
 | 0=>[]
 | n+1=>pR t n++yw (t n)
theorem kK (t:Nat→X3):∀n,(pR t n).length=n*3
 | 0=>rfl
 | n+1=>by simp [pR,kK t n,yw];omega
theorem kL (t:Nat→X3) (j d:Nat) (hd:d < 3):∀n,j < n→(pR t n)[j*3+d]?=(yw (t j))[d]?
 | 0,h=>by omega
 | n+1,h=>by
  have hl:=kK t n
  unfold pR
  by_cases e:j < n
  ·rw [List.getElem?_append_left (by omega)]
   exact kL t j d hd n e
  ·obtain rfl:j=n:=by omega
   rw [List.getElem?_append_right (by omega),hl,show j*3+d - j*3=d by omega]
theorem EL (t:Nat→X3) (n:Nat):T3 (pR t n).toArray n t:=by
 refine⟨by simp [kK],fun j hj=>?_⟩
 have h0:=kL t j 0 (by omega) n hj
 rw [Nat.add_zero] at h0
 simp only [List.getElem?_toArray]
 rw [h0,kL t j 1 (by omega) n hj,kL t j 2 (by omega) n hj]
 simp [yw]
theorem KC (t:Nat→X3) (n:Nat):∀v∈pR t n,v.oneCell'=true:=by
 induction n with
 | zero=>intro v h;simp [pR] at h
 | succ n ih=>
  intro v h
  unfold pR at h
  rcases List.mem_append.1 h with h | h
  ·exact ih v h
  ·simp only [yw,List.mem_cons,List.not_mem_nil,or_false] at h
   rcases h with rfl | rfl | rfl <;> rfl
theorem cZ.x3 {w:World} {F:Nat→Prop}:∀(es:List Ex) (b off:Nat),cZ w F es b off→∃t:Nat→X3,∀j e,es[j]?=some e→w.cell? ⟨b,off+j*3,none⟩=some (.int .u8 (t j).op)∧w.cell? ⟨b,off+j*3+1,none⟩=some (.int .u32 (t j).set)∧w.cell? ⟨b,off+j*3+2,none⟩=some (.slice (t j).a (t j).m (t j).c)∧Te w F e (.agg #[.int .u8 (t j).op,.int .u32 (t j).set,.slice (t j).a (t j).m (t j).c])
 | [],b,off,h=>⟨fun _=>⟨0,0,none,0,0⟩,fun j e h=>by simp at h⟩
 | e::es,b,off,h=>by
  unfold cZ at h
  obtain⟨⟨o,s,k,h0,h1,h2,h3⟩,h4⟩:=h
  obtain⟨t,ht⟩:=cZ.x3 es b (off+3) h4
  obtain⟨op,set,kids⟩:=e
  obtain⟨a,cap,hv,_⟩:=h3.kids
  simp only [Value.agg.injEq,Array.mk.injEq,List.cons.injEq,and_true] at hv
  obtain⟨rfl,rfl,rfl⟩:=hv
  refine⟨fun j=>match j with | 0=>⟨op,set,a,kids.length,cap⟩ | j+1=>t j,fun j e' he=>?_⟩
  cases j with
  | zero=>
   simp only [List.getElem?_cons_zero,Option.some.injEq] at he
   subst he
   simp only [Nat.zero_mul,Nat.add_zero]
   exact⟨h0,h1,h2,h3⟩
  | succ j=>
   simp only [List.getElem?_cons_succ] at he
   have:=ht j e' he
   rw [show off+3+j*3=off+(j+1)*3 by omega] at this
   exact this
theorem Gy {w:World} {b off:Nat} {es:List Ex} {t:Nat→X3} {F:Nat→Prop} (h:∀j e,es[j]?=some e→w.cell? ⟨b,off+j*3,none⟩=some (.int .u8 (t j).op)∧w.cell? ⟨b,off+j*3+1,none⟩=some (.int .u32 (t j).set)∧w.cell? ⟨b,off+j*3+2,none⟩=some (.slice (t j).a (t j).m (t j).c)∧Te w F e (.agg #[.int .u8 (t j).op,.int .u32 (t j).set,.slice (t j).a (t j).m (t j).c])):
  ∀j v,(pR t es.length)[j]?=some v→w.cell? ((⟨b,off,none⟩:Addr).add j)=some v:=by
 intro j v hv
 have hl:=(List.getElem?_eq_some_iff.1 hv).1
 rw [kK] at hl
 have hq:j / 3 < es.length:=by omega
 rw [show j=j / 3*3+j % 3 by omega,kL t (j / 3) (j % 3) (by omega) _ hq] at hv
 obtain⟨g0,g1,g2,_⟩:=h (j / 3) _ (List.getElem?_eq_getElem hq)
 rw [Addr.add_mid]
 have h3:j % 3=0∨j % 3=1∨j % 3=2:=by omega
 rcases h3 with e | e | e
 ·rw [e] at hv
  simp [yw] at hv
  rw [show off+j=off+j / 3*3 by omega,g0,hv]
 ·rw [e] at hv
  simp [yw] at hv
  rw [show off+j=off+j / 3*3+1 by omega,g1,hv]
 ·rw [e] at hv
  simp [yw] at hv
  rw [show off+j=off+j / 3*3+2 by omega,g2,hv]
theorem T3.VK {w W:World} {F:Nat→Prop} {b n:Nat} {cs:Array Value} {u:Nat→X3} {es:List Ex} (hb:W.heap[b]?=some (.cells cs 117 (0,0))) (hT:T3 cs n u) (hl:es.length=n) (hk:Kp w W F) (h:∀j e,es[j]?=some e→Te w F e (.agg #[.int .u8 (u j).op,.int .u32 (u j).set,.slice (u j).a (u j).m (u j).c])):cZ W F es b 0:=by
 refine cZ.of hk (fun _ h=>h) es b 0 (fun i e hi=>?_)
 have hil:=(List.getElem?_eq_some_iff.1 hi).1
 obtain⟨q0,q1,q2⟩:=hT.2 i (by omega)
 rw [Nat.zero_add]
 exact⟨_,_,_,(cell_of_row _ _ _ _ _ _ hb).trans q0,(cell_of_row _ _ _ _ _ _ hb).trans q1,(cell_of_row _ _ _ _ _ _ hb).trans q2,h i e hi⟩
theorem VL:(Tryz.prog.info? 117).map (fun i=>(i.zero,i.size,i.bytes))=some (some (.agg #[.int .u8 0,.int .u32 0,.slice none 0 0]),3,32):=by kernel_rfl
theorem VM:(Tryz.prog.info? 117).map (·.size)=some 3:=by kernel_rfl
theorem VN (n:Nat) (hn:n≤1000000) (w:World):(Instr.makeSlice 83 (.int .i64 (n:Int)) (.int .i64 (n:Int))).run Tryz.prog w=.ok (.slice (some ⟨w.heap.size,0,none⟩) n n) (w.alloc (.cells (madeCells #[.int .u8 0,.int .u32 0,.slice none 0 0] (n*3)) 117)):=by
 obtain⟨i,hi,hz0,hz1,hz2⟩:=info_parts VL
 have hr:=run_make (P:=Tryz.prog) w 83 117 i (.agg #[.int .u8 0,.int .u32 0,.slice none 0 0]) Tryz.underlying83 hi hz0 .i64 .i64 n n (by omega) (Int.le_refl _) (by rw [hz2];omega) (by omega)
 simp only [Int.toNat_natCast,hz1] at hr
 exact hr
def wE (w:World) (F:Nat→Prop) (op:Int) (kids:List Ex) (e:Ending) (w':World):Prop:=
 ∃a',e=.returned (.slice a' kids.length kids.length)∧Only (fun _=>False) w w'∧((kids=[]∧a'=none)∨(kids≠[]∧∃b',a'=some ⟨b',0,none⟩∧w.heap.size≤b'∧Tg w' b'∧cZ w' F (kd op kids) b' 0))
theorem R_ (n:Nat):(madeCells #[.int .u8 0,.int .u32 0,.slice none 0 0] (n*3)).size=n*3:=size_madeCells _ _
theorem VO (w:World) (A:Obj) (n b off cap:Nat) (t:Nat→X3) (hc:∀j v,(pR t n)[j]?=some v→w.cell? ((⟨b,off,none⟩:Addr).add j)=some v):
  ∃W,(Builtin.copy_ #[83,83] 3 #[.slice (some ⟨w.heap.size+1,0,none⟩) n n,.slice (some ⟨b,off,none⟩) n cap]).run Tryz.prog ((w.alloc A).alloc (.cells (madeCells #[.int .u8 0,.int .u32 0,.slice none 0 0] (n*3)) 117))=.ok (.int .i64 (n:Int)) W∧
   W.heap[w.heap.size+1]?=some (.cells (pR t n).toArray 117 (0,0))∧W.heap[w.heap.size]?=some A∧Only (fun _=>False) w W:=by
 have hg:((w.alloc A).alloc (.cells (madeCells #[.int .u8 0,.int .u32 0,.slice none 0 0] (n*3)) 117)).heap[w.heap.size+1]?=some (.cells (madeCells #[.int .u8 0,.int .u32 0,.slice none 0 0] (n*3)) 117 (0,0)):=heap_alloc2_new _ _ _
 have ho:Only (fun _=>False) w ((w.alloc A).alloc (.cells (madeCells #[.int .u8 0,.int .u32 0,.slice none 0 0] (n*3)) 117)):=((Only.refl _ _).alloc _).alloc _
 have hr:=Gx (P:=Tryz.prog) ((w.alloc A).alloc (.cells (madeCells #[.int .u8 0,.int .u32 0,.slice none 0 0] (n*3)) 117)) 83 83 3 117 (w.heap.size+1) n n ⟨b,off,none⟩ cap _ 117 (pR t n) Tryz.underlying83 VM hg (kK t n) (fun j v hv=>?_) (R_ n) (KC t n)
 ·refine⟨_,hr,Go.setRow_heap _ _ _ _ 117 _ hg,?_,?_⟩
  ·refine (Go.setRow_other _ _ _ _ (by omega)).trans ?_
   exact (Below.heap_alloc _ _ _ (by simp)).trans (heap_alloc_new _ _)
  ·have h1:Only (·=w.heap.size+1) ((w.alloc A).alloc (.cells (madeCells #[.int .u8 0,.int .u32 0,.slice none 0 0] (n*3)) 117)) (((w.alloc A).alloc (.cells (madeCells #[.int .u8 0,.int .u32 0,.slice none 0 0] (n*3)) 117)).setRow (w.heap.size+1) (pR t n).toArray):=(Only.refl (·=w.heap.size+1) _).setRow (show w.heap.size+1=w.heap.size+1 from rfl) _
   have h2:Only (·=w.heap.size+1) w _:=(ho.mono (fun _ h=>h.elim)).trans h1
   exact⟨h2.os,h2.tape,h2.output,h2.size,fun b hb _=>h2.block b hb (by omega)⟩
 ·have h0:=hc j v hv
  exact (World.cell?_of_block (a:=(⟨b,off,none⟩:Addr).add j) (ho.block _ (World.block_lt_of_cell? w _ h0) (fun h=>h))).trans h0
theorem Gz (F:Nat→Prop) (op set:Int) (kids:List Ex) (v:Value) (w:World) (hT:Te w F (.mk op set kids) v) (hm:kids.length≤1000000):
  Calls Tryz.prog 83 #[v] w (wE w F op kids):=by
 obtain⟨a,cap,rfl,hs0,hs1,hl1,hl2,hl3⟩:=hT.kids
 have VP:=zH hl3
 clear hT hl3 hl2
 by_cases hk:kids=[]
 ·subst hk
  clear hm hl1
  show Calls Tryz.prog 83 #[.agg #[.int .u8 op,.int .u32 set,.slice a 0 cap]] w (wE w F op [])
  go_enter Tryz.func83,Tryz.ntmps83
  go_wp2_with fail
  go_ret
  exact⟨none,rfl,(Only.refl _ _).alloc _,Or.inl ⟨rfl,rfl⟩⟩
 ·obtain⟨kb,ko,rfl,hF,hTs⟩:=VP.out hk
  obtain⟨t,ht⟩:=hTs.x3
  have hsrc:=Gy ht
  obtain⟨n,hn⟩:∃n,n=kids.length:=⟨_,rfl⟩
  have HN:=zH hn
  rw [←hn] at hm hl1 hsrc ⊢
  have hn1:1≤n:=by rw [hn];exact List.length_pos_iff.2 hk
  obtain⟨W,hcp,hW1,hW2,hWo⟩:=VO w (.cells #[.int .u8 op,.int .u32 set,.slice (some ⟨kb,ko,none⟩) n cap] 117) n kb ko cap t hsrc
  have HW1:=zH hW1
  have ZG:=zH hWo
  have NZ:Hid (∀j e,kids[j]?=some e→Te w F e (.agg #[.int .u8 (t j).op,.int .u32 (t j).set,.slice (t j).a (t j).m (t j).c])):=fun j e h=>(ht j e h).2.2.2
  have hmk:=fun (w:World)=>VN n hm w
  have c0:W.cell? ⟨w.heap.size,0,none⟩=some (.int .u8 op):=ae hW2
  have hlw:w.heap.size < W.heap.size:=(Array.getElem?_eq_some_iff.1 hW2).1
  have z1:¬(n:Int)=0:=by omega
  have z2:((n:Int)==0)=false:=by simpa using z1
  have VQ:=zH hk
  clear hn hsrc hW1 hW2 hWo ht hTs VP hk
  by_cases ho:op=2
  ·subst ho
   have Uj:=yx (w.heap.size+1) n t _ W HW1.out (EL t n) hn1 hm
   have HR:=zH Uj
   clear Uj
   go_enter Tryz.func83,Tryz.ntmps83
   go_wp2_with (go_at_call 105;refine Calls.mono HR.out ?_;rintro e w5 ⟨rfl,⟨cs5,hb5,PS⟩,df⟩;have Vg:=zH hb5;have Zm:=zH PS;have oG:=zH df;clear hb5 PS df)
   go_ret
   have h2:Only (·=w.heap.size+1) w w5:=(ZG.out.mono (fun _ h=>h.elim)).trans oG.out
   have h3:Only (fun _=>False) w w5:=⟨h2.os,h2.tape,h2.output,h2.size,fun b hb _=>h2.block b hb (by omega)⟩
   refine⟨some ⟨w.heap.size+1,0,none⟩,by rw [←HN.out];rfl,h3,Or.inr ⟨VQ.out,_,rfl,Nat.le_succ _,⟨_,Vg.out⟩,?_⟩⟩
   unfold kd
   rw [if_pos rfl]
   refine T3.VK Vg.out Zm.out (by rw [List.length_reverse,HN.out]) (Kp.only h3 (fun _ _ h=>h)) (fun j e he=>?_)
   have hj:j < kids.length:=by have:=(List.getElem?_eq_some_iff.1 he).1;simpa using this
   rw [List.getElem?_reverse hj] at he
   have:=NZ.out _ e he
   rw [←HN.out] at this
   exact this
  ·have q1:(op==2)=false:=by simpa using ho
   go_enter Tryz.func83,Tryz.ntmps83
   go_wp2_with fail
   go_ret
   refine⟨some ⟨w.heap.size+1,0,none⟩,by rw [←HN.out];rfl,ZG.out,Or.inr ⟨VQ.out,_,rfl,Nat.le_succ _,⟨_,HW1.out⟩,?_⟩⟩
   unfold kd
   rw [if_neg ho]
   exact T3.VK HW1.out (EL t n) HN.out.symm (Kp.only ZG.out (fun _ _ h=>h)) (fun j e he=>NZ.out j e he)
end Go.Proofs.YtdlabakleldgaaaGreatDoor
namespace Go.Proofs.YtdlabakleldgaaaGreatDoor
open Go.RowKit Go.Maps
open Rl (Ex Small)
def Aj (r:iq):Value:=.slice (some ⟨r.1,0,none⟩) r.2.2.length r.2.2.length
def MJ (rows:List iq):Prop:=∀(q:Nat) (r:iq),rows[q]?=some r→r.2.1=0∧r.2.2≠[]∧(∀e∈r.2.2,Small e)∧r.2.2.length≤5000∧q+5000*Au.fO r.2.2≤500000
theorem MJ.snoc {rows:List iq} (h:MJ rows) {r:iq} (h1:r.2.1=0) (h2:r.2.2≠[]) (h3:∀e∈r.2.2,Small e) (h4:r.2.2.length≤5000) (h5:rows.length+5000*Au.fO r.2.2≤500000):MJ (rows++[r]):=fun q r' hq=>by
 by_cases e:q < rows.length
 ·rw [List.getElem?_append_left e] at hq
  exact h q r' hq
 ·have hl:=(List.getElem?_eq_some_iff.1 hq).1
  simp at hl
  obtain rfl:q=rows.length:=by omega
  simp at hq
  subst hq
  exact⟨h1,h2,h3,h4,h5⟩
theorem MJ.init {rows:List iq} {r:iq} (h:MJ (rows++[r])):MJ rows:=fun q r' hq=>h q r' (by rw [List.getElem?_append_left (List.getElem?_eq_some_iff.1 hq).1];exact hq)
theorem MJ.last {rows:List iq} {r:iq} (h:MJ (rows++[r])):r.2.1=0∧r.2.2≠[]∧(∀e∈r.2.2,Small e)∧r.2.2.length≤5000∧rows.length+5000*Au.fO r.2.2≤500000:=h rows.length r (by simp)
structure MK (w1 W:World) (G:World→Prop) (base g cap b n1 i CY:Nat) (es:List Ex) (rows:List iq):Prop where
 ti:∃K,gU w1 W G K ((b,i*3,es.drop i)::rows)
 ow:W.ownsRow base 83 1 (.slice (some ⟨g,0,none⟩) rows.length cap) rows.length (rows.map Aj)
 sh:MJ rows
 ln:rows.length≤n1+i
 wt:EJ rows+jX (es.drop i)+i≤CY
theorem yz {op:Int} {kids:List Ex} {e:Ex} (h:e∈kd op kids):e∈kids:=by
 unfold kd at h
 split at h
 ·simpa using h
 ·exact h
theorem VR {op:Int} {kids:List Ex} (h:kids≠[]):kd op kids≠[]:=by
 intro e
 have:=yu op kids
 rw [e] at this
 exact h (List.eq_nil_of_length_eq_zero this.symm)
theorem MK.Sa {w1 W W5:World} {G:World→Prop} {base g cap b n1 i CY:Nat} {es:List Ex} {rows:List iq} {op set:Int} (h:MK w1 W G base g cap b n1 i CY es rows) (he:es[i]?=some (.mk op set [])) (ho:Only (fun _=>False) W W5) (hb1:w1.heap.size≤b):
  MK w1 (W5.setCell ⟨b,i*3+2,none⟩ (.slice none 0 0)) G base g cap b n1 (i+1) CY es rows:=by
 obtain⟨⟨K,ti⟩,ow,sh,ln,wt⟩:=h
 have hi:=(List.getElem?_eq_some_iff.1 he).1
 have hd:es.drop i=.mk op set []::es.drop (i+1):=by rw [List.drop_eq_getElem_cons hi,(List.getElem?_eq_some_iff.1 he).2]
 rw [hd] at ti wt
 have t5:gU w1 W5 G K ((b,i*3,.mk op set []::es.drop (i+1))::rows):=ti.keep (ti.on.trans ho) (fun x ⟨cs,hx⟩=>ho.block x (Array.getElem?_eq_some_iff.1 hx).1 (fun h=>h))
 obtain⟨_,⟨cs,hb⟩,_⟩:=t5.ro (b,i*3,.mk op set []::es.drop (i+1)) (by simp)
 simp only at hb
 have ZH:(W5.setCell ⟨b,i*3+2,none⟩ (.slice none 0 0)).heap[b]?=some (.cells (cs.setIfInBounds (i*3+2) (.slice none 0 0)) 117 (0,0)):=aa hb _
 have t6:=t5.step (kr:=[]) (a':=none) hb ZH (t5.on.aS hb1 _) (fun x hx=>Below.heap_setCell _ _ _ _ hx) (Or.inl ⟨rfl,rfl⟩)
 refine⟨⟨_,by rw [show (i+1)*3=i*3+3 by omega];exact t6⟩,?_,sh,by omega,by simp only [jX,X8] at wt;omega⟩
 have ZI:=ai ow ho (fun _ _ h=>h)
 exact dS ZI ((Only.refl (·=b) W5).setCell (p:=⟨b,i*3+2,none⟩) rfl _) (fun x hx cur z e=>by
  have hx:x=b:=hx
  subst hx
  rw [hb] at e
  injection e with e
  injection e with _ e
  exact absurd e (by decide))
theorem MK.stored {w1 W W5:World} {G:World→Prop} {base g cap b n1 i CY:Nat} {es:List Ex} {rows:List iq} (h:MK w1 W G base g cap b n1 i CY es rows) (ho:Only (fun _=>False) W W5) (v:Value):
  (W5.setCell ⟨b,i*3+2,none⟩ v).ownsRow base 83 1 (.slice (some ⟨g,0,none⟩) rows.length cap) rows.length (rows.map Aj):=by
 obtain⟨⟨K,ti⟩,ow,sh,ln,wt⟩:=h
 obtain⟨_,⟨cs,hb⟩,_⟩:=ti.ro (b,i*3,es.drop i) (by simp)
 simp only at hb
 have hb5:=(ho.block b (Array.getElem?_eq_some_iff.1 hb).1 (fun h=>h)).trans hb
 have ZI:=ai ow ho (fun _ _ h=>h)
 exact dS ZI ((Only.refl (·=b) W5).setCell (p:=⟨b,i*3+2,none⟩) rfl _) (fun x hx cur z e=>by
  have hx:x=b:=hx
  subst hx
  rw [hb5] at e
  injection e with e
  injection e with _ e
  exact absurd e (by decide))
theorem MK.kids {w1 W W5 W3:World} {G:World→Prop} {base g cap b n1 i CY g3 VS b':Nat} {o:Obj} {es kids:List Ex} {rows:List iq} {op set:Int} (h:MK w1 W G base g cap b n1 i CY es rows) (he:es[i]?=some (.mk op set kids)) (hk:kids≠[]) (ho:Only (fun _=>False) W W5) (hb1:w1.heap.size≤b) (hbase:w1.heap.size≤base) (hgb:base≤g)
  (hsm:Small (.mk op set kids)) (hdp:n1+5000*Au.fO es≤500000) (hel:es.length≤5000) (hb':W.heap.size≤b') (X_:Tg W5 b') (hts:cZ W5 (fun b=>b < w1.heap.size) (kd op kids) b' 0)
  (hown:W3.ownsRow base 83 1 (.slice (some ⟨g3,0,none⟩) (rows.length+1) VS) (rows.length+1) (rows.map Aj++[.slice (some ⟨b',0,none⟩) kids.length kids.length])) (hg3:((W5.setCell ⟨b,i*3+2,none⟩ (.slice (some ⟨b',0,none⟩) kids.length kids.length)).alloc o).grownBy W3 (some g)):
  MK w1 W3 G base g3 VS b n1 (i+1) CY es (rows++[(b',0,kd op kids)]):=by
 have ow2:=h.stored ho (.slice (some ⟨b',0,none⟩) kids.length kids.length)
 obtain⟨⟨K,ti⟩,ow,sh,ln,wt⟩:=h
 have hi:=(List.getElem?_eq_some_iff.1 he).1
 have hd:es.drop i=.mk op set kids::es.drop (i+1):=by rw [List.drop_eq_getElem_cons hi,(List.getElem?_eq_some_iff.1 he).2]
 rw [hd] at ti wt
 have lt:∀x,Tg W x→x < W.heap.size:=fun x ⟨cs,hx⟩=>(Array.getElem?_eq_some_iff.1 hx).1
 have t5:gU w1 W5 G K ((b,i*3,.mk op set kids::es.drop (i+1))::rows):=ti.keep (ti.on.trans ho) (fun x ⟨cs,hx⟩=>ho.block x (Array.getElem?_eq_some_iff.1 hx).1 (fun h=>h))
 obtain⟨_,VT,_⟩:=ti.ro (b,i*3,.mk op set kids::es.drop (i+1)) (by simp)
 obtain⟨_,⟨cs,hb⟩,_⟩:=t5.ro (b,i*3,.mk op set kids::es.drop (i+1)) (by simp)
 simp only at hb VT
 have hbl:=lt b VT
 have ZH:(W5.setCell ⟨b,i*3+2,none⟩ (.slice (some ⟨b',0,none⟩) kids.length kids.length)).heap[b]?=some (.cells (cs.setIfInBounds (i*3+2) (.slice (some ⟨b',0,none⟩) kids.length kids.length)) 117 (0,0)):=aa hb _
 have abo:=ti.on.size
 have t6:=t5.step (kr:=[(b',0,kd op kids)]) (a':=some ⟨b',0,none⟩) hb ZH (t5.on.aS hb1 _) (fun x hx=>Below.heap_setCell _ _ _ _ hx)
  (Or.inr ⟨hk,b',rfl,rfl,by omega,X_,hts,by omega,fun r hr e=>by
   have:=lt _ (ti.ro r (by simp [hr])).2.1
   omega,fun o hK=>by
   have:=lt _ (ti.kk b' o hK).2.1
   omega⟩)
 have o1:Only (·=g) ((W5.setCell ⟨b,i*3+2,none⟩ (.slice (some ⟨b',0,none⟩) kids.length kids.length)).alloc o) W3:=(Only.refl (·=g) _).grown hg3 (fun k h=>by injection h with h;exact h.symm)
 have o2:Only (·=g) w1 W3:=((t6.on.alloc o).mono (fun _ h=>h.elim)).trans o1
 have o3:Only (fun _=>False) w1 W3:=⟨o2.os,o2.tape,o2.output,o2.size,fun b hb _=>o2.block b hb (by omega)⟩
 have t7:=t6.keep o3 (fun x ⟨cx,hx⟩=>by
  have hxl:=(Array.getElem?_eq_some_iff.1 hx).1
  have hne:x≠g:=fun e=>own_ne ow2 hx (by decide) (by rw [e];rfl)
  refine (o1.block x ?_ hne).trans ?_
  ·simp
   simp at hxl
   omega
  ·exact Below.heap_alloc _ _ _ hxl)
 have nd:=t7.nd
 simp only [List.map_cons,List.map_append,List.map_nil,List.singleton_append] at nd
 obtain⟨VJ,X9⟩:=List.nodup_cons.1 nd
 obtain⟨nd3,nd4⟩:=List.nodup_cons.1 X9
 have t8:gU w1 W3 G _ ((b,i*3+3,es.drop (i+1))::(rows++[(b',0,kd op kids)])):=t7.perm (fun r=>by simp only [List.mem_cons,List.mem_append,List.not_mem_nil,or_false,List.singleton_append];constructor <;>(intro h;rcases h with h | h | h <;> simp [h])) (by
  simp only [List.map_cons,List.map_append,List.map_nil]
  rw [List.nodup_cons]
  refine⟨fun hm=>VJ ?_,?_⟩
  ·rcases List.mem_append.1 hm with hm | hm
   ·exact List.mem_cons_of_mem _ hm
   ·simp only [List.mem_singleton] at hm
    rw [hm]
    exact List.mem_cons_self
  ·rw [List.nodup_append]
   refine⟨nd4,by simp,?_⟩
   intro a ha c hc e
   simp only [List.mem_singleton] at hc
   subst hc
   subst e
   exact nd3 ha)
 have hmem:Ex.mk op set kids∈es:=List.mem_of_getElem? he
 have hdk:1+Au.fO kids≤Au.fO es:=by have:=Au.oW es _ hmem;unfold Au.dp at this;exact this
 have hdd:Au.fO (kd op kids)≤Au.fO kids:=Au.xU _ _ (fun e h=>Au.oW _ _ (yz h))
 refine⟨⟨_,by rw [show (i+1)*3=i*3+3 by omega];exact t8⟩,?_,sh.snoc rfl (VR hk) (fun e h=>hsm.kids.2 e (yz h)) (by rw [yu];exact hsm.kids.1) (by simp only;omega),by simp;omega,?_⟩
 ·have e1:(rows++[(b',0,kd op kids)]).length=rows.length+1:=by simp
  have e2:(rows++[(b',0,kd op kids)]).map Aj=rows.map Aj++[.slice (some ⟨b',0,none⟩) kids.length kids.length]:=by
   rw [List.map_append]
   simp [Aj,yu]
  rw [e1,e2]
  exact hown
 ·rw [yt]
  simp only [EJ,jX,X8,N7] at wt ⊢
  omega
end Go.Proofs.YtdlabakleldgaaaGreatDoor
namespace Go.Proofs.YtdlabakleldgaaaGreatDoor.L
namespace Hm
def Ip (k:Nat) (d:Nat→Nat→Nat) (o:Nat→Nat) (d':Nat→Nat→Nat) (o':Nat→Nat) (s t:Nat):Prop:=∀w:List Nat,(∀c∈w,c < k)→o (w.foldl d s)=o' (w.foldl d' t)
abbrev yB (k:Nat) (d:Nat→Nat→Nat) (o:Nat→Nat) (s t:Nat):Prop:=Ip k d o d o s t
theorem Ip.out {k:Nat} {d d':Nat→Nat→Nat} {o o':Nat→Nat} {s t:Nat} (h:Ip k d o d' o' s t):o s=o' t:=h [] (by simp)
theorem Ip.step {k:Nat} {d d':Nat→Nat→Nat} {o o':Nat→Nat} {s t c:Nat} (h:Ip k d o d' o' s t) (hc:c < k):Ip k d o d' o' (d s c) (d' t c):=fun w hw=>h (c::w) (fun x hx=>by rcases List.mem_cons.1 hx with rfl | hx;exact hc;exact hw x hx)
theorem Ip.symm {k:Nat} {d d':Nat→Nat→Nat} {o o':Nat→Nat} {s t:Nat} (h:Ip k d o d' o' s t):Ip k d' o' d o t s:=fun w hw=>(h w hw).symm
theorem Ip.refl {k:Nat} {d:Nat→Nat→Nat} {o:Nat→Nat} (s:Nat):yB k d o s s:=fun w hw=>rfl
def ZJ (n k:Nat) (d:Nat→Nat→Nat) (g:Nat→Nat) (T:Nat→Prop):Prop:=∀s t c,s < n→t < n→c < k→g s=g t→(T (g (d s c))↔T (g (d t c)))
structure Split (n:Nat) (g:Nat→Nat) (K:Nat) (D:Nat→Prop) (g':Nat→Nat) (K':Nat):Prop where
 le:K≤K'
 lt:∀s,s < n→g' s < K'
 new:∀s,s < n→g' s=g s∨K≤g' s
 iff:∀s t,s < n→t < n→(g' s=g' t↔g s=g t∧(D s↔D t))
def Inv (n k:Nat) (d:Nat→Nat→Nat) (g:Nat→Nat) (K i:Nat):Prop:=∀j,j < i→∃T:Nat→Prop,T j∧(∀t,T t→t < K→j≤t)∧ZJ n k d g T
theorem Inv.split {n k:Nat} {d:Nat→Nat→Nat} {g g':Nat→Nat} {K K' i:Nat} {D:Nat→Prop} (hd:∀s c,s < n→c < k→d s c < n) (hiK:i≤K) (h:Inv n k d g K i) (hs:Split n g K D g' K'):Inv n k d g' K' i:=fun j hj=>by
 obtain⟨T,h1,h2,h3⟩:=h j hj
 have key:∀x,x < n→((T (g' x)∧g' x < K∨∃y,y < n∧g' y=g' x∧T (g y))↔T (g x)):=fun x hx=>by
  constructor
  ·rintro (⟨a,b⟩ | ⟨y,hy,e,hT⟩)
   ·rcases hs.new x hx with e | e
    ·rw [←e];exact a
    ·omega
   ·rw [←((hs.iff y x hy hx).1 e).1];exact hT
  ·exact fun a=>Or.inr ⟨x,hx,rfl,a⟩
 refine⟨fun t=>T t∧t < K∨∃y,y < n∧g' y=t∧T (g y),Or.inl ⟨h1,by omega⟩,?_,?_⟩
 ·rintro t (⟨a,b⟩ | ⟨y,hy,e,hT⟩) ht
  ·exact h2 t a b
  ·rcases hs.new y hy with e2 | e2
   ·have hl:g y < K∨K≤g y:=by omega
    rcases hl with hl | hl
    ·have:=h2 _ hT hl;omega
    ·omega
   ·omega
 ·intro s t c hsn htn hc e
  exact ((key _ (hd s c hsn hc)).trans (h3 s t c hsn htn hc ((hs.iff s t hsn htn).1 e).1)).trans (key _ (hd t c htn hc)).symm
def Sound (n k:Nat) (d:Nat→Nat→Nat) (o g:Nat→Nat):Prop:=∀s t,s < n→t < n→yB k d o s t→g s=g t
theorem Sound.split {n k:Nat} {d:Nat→Nat→Nat} {o g g':Nat→Nat} {K K':Nat} {D:Nat→Prop} (h:Sound n k d o g) (hs:Split n g K D g' K') (hD:∀s t,s < n→t < n→yB k d o s t→(D s↔D t)):Sound n k d o g':=
 fun s t a b e=>(hs.iff s t a b).2 ⟨h s t a b e,hD s t a b e⟩
theorem KD {n k:Nat} {d:Nat→Nat→Nat} {g:Nat→Nat} {K:Nat} (hd:∀s c,s < n→c < k→d s c < n) (hg:∀s,s < n→g s < K) (h:Inv n k d g K K):∀m j,K - j≤m→j < K→∀s t c,s < n→t < n→c < k→g s=g t→g (d s c)=j→g (d t c)=j:=by
 intro m
 induction m with
 | zero=>intro j h1 h2;omega
 | succ m ih=>
  intro j h1 h2 s t c hs ht hc e hj
  obtain⟨T,a,b,st⟩:=h j h2
  have hT:T (g (d t c)):=(st s t c hs ht hc e).1 (by rw [hj];exact a)
  have hlt:=hg _ (hd t c ht hc)
  have hle:=b _ hT hlt
  by_cases heq:g (d t c)=j
  ·exact heq
  ·have:=ih (g (d t c)) (by omega) hlt t s c ht hs hc e.symm rfl
   omega
theorem done {n k:Nat} {d:Nat→Nat→Nat} {o g:Nat→Nat} {K:Nat} (hd:∀s c,s < n→c < k→d s c < n) (hg:∀s,s < n→g s < K) (h:Inv n k d g K K) (ho:∀s t,s < n→t < n→g s=g t→o s=o t):∀(w:List Nat),(∀c∈w,c < k)→∀s t,s < n→t < n→g s=g t→o (w.foldl d s)=o (w.foldl d t)
 | [],_,s,t,hs,ht,e=>ho s t hs ht e
 | c::w,hw,s,t,hs,ht,e=>by
  have hc:=hw c (by simp)
  have:=KD hd hg h (K - g (d s c)) (g (d s c)) (by omega) (hg _ (hd s c hs hc)) s t c hs ht hc e rfl
  exact done hd hg h ho w (fun x hx=>hw x (by simp [hx])) (d s c) (d t c) (hd s c hs hc) (hd t c ht hc) this.symm
structure At (n k:Nat) (d:Nat→Nat→Nat) (g0:Nat→Nat) (K0 i:Nat) (c0:Nat) (g:Nat→Nat) (K:Nat):Prop where
 le:K0≤K
 fine:∀s t,s < n→t < n→g s=g t→g0 s=g0 t
 new:∀s,s < n→g s=g0 s∨K0≤g s
 by':∀c,c < c0→∀s t,s < n→t < n→g s=g t→(g0 (d s c)=i↔g0 (d t c)=i)
theorem At.start {n k:Nat} {d:Nat→Nat→Nat} (g0:Nat→Nat) (K0 i:Nat):At n k d g0 K0 i 0 g0 K0:=⟨Nat.le_refl _,fun _ _ _ _ e=>e,fun _ _=>Or.inl rfl,fun c h=>by omega⟩
theorem At.next {n k:Nat} {d:Nat→Nat→Nat} {g0 g g':Nat→Nat} {K0 i c0 K K':Nat} (h:At n k d g0 K0 i c0 g K) (hs:Split n g K (fun s=>g0 (d s c0)=i) g' K'):At n k d g0 K0 i (c0+1) g' K':=by
 refine⟨Nat.le_trans h.le hs.le,fun s t a b e=>h.fine s t a b ((hs.iff s t a b).1 e).1,fun s a=>?_,fun c hc s t a b e=>?_⟩
 ·rcases hs.new s a with e | e
  ·rw [e];exact h.new s a
  ·exact Or.inr (Nat.le_trans h.le e)
 ·have e2:=(hs.iff s t a b).1 e
  by_cases hcc:c=c0
  ·subst hcc;exact e2.2
  ·exact h.by' c (by omega) s t a b e2.1
theorem At.done {n k:Nat} {d:Nat→Nat→Nat} {g0 g:Nat→Nat} {K0 i K:Nat} (hd:∀s c,s < n→c < k→d s c < n) (h:At n k d g0 K0 i k g K) (hi:i < K0) (hI:Inv n k d g K i):Inv n k d g K (i+1):=fun j hj=>by
 by_cases e:j=i
 ·subst e
  have key:∀x,x < n→((g x=j∨∃y,y < n∧g y=g x∧g0 y=j)↔g0 x=j):=fun x hx=>by
   constructor
   ·rintro (e | ⟨y,hy,e,e2⟩)
    ·rcases h.new x hx with e3 | e3 <;> omega
    ·rw [←h.fine y x hy hx e];exact e2
   ·exact fun e=>Or.inr ⟨x,hx,rfl,e⟩
  refine⟨fun t=>t=j∨∃y,y < n∧g y=t∧g0 y=j,Or.inl rfl,?_,?_⟩
  ·rintro t (e | ⟨y,hy,e,e2⟩) ht
   ·omega
   ·rcases h.new y hy with e3 | e3 <;> omega
  ·intro s t c hs ht hc e
   exact ((key _ (hd s c hs hc)).trans (h.by' c hc s t hs ht e)).trans (key _ (hd t c ht hc)).symm
 ·exact hI j (by omega)
/-! ### numbers, as states are come to -/
def Ord:List Nat→Nat→Nat→Prop
 | [],m,M=>m=M
 | j::F,m,M=>(j < m∧Ord F m M)∨(j=m∧Ord F (m+1) M)
def jE:List (List Nat)→Nat→Nat→Nat→Prop
 | [],i,m,M=>m=M∧i=M
 | row::rows,i,m,M=>i < m∧∃m',Ord row m m'∧jE rows (i+1) m' M
structure iq (n k:Nat) (d:Nat→Nat→Nat) (o:Nat→Nat) (nx:List (List Nat)) (out r:List Nat):Prop where
 zero:r[0]?=some 0
 len:r.length=nx.length
 mK:out.length=nx.length
 st:∀i s:Nat,r[i]?=some s→s < n∧out[i]?=some (o s)
 row:∀i s:Nat,r[i]?=some s→∃row,nx[i]?=some row∧row.length=k∧∀c j:Nat,row[c]?=some j→∃t,r[j]?=some t∧yB k d o t (d s c)
 one:∀i j s t:Nat,r[i]?=some s→r[j]?=some t→yB k d o s t→i=j
 ord:jE nx 0 1 nx.length
end Hm
end Go.Proofs.YtdlabakleldgaaaGreatDoor.L
