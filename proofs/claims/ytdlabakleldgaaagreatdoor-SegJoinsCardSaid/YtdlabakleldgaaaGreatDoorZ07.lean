/- Tree Often Len -/
import Derived.Test.YtdlabakleldgaaaGreatDoorZ06
import Derived.Maps.AppendAt
import Derived.Test.YtdlabakleldgaaaGreatDoorZ00
set_option linter.unusedVariables false
set_option linter.unusedSimpArgs false
set_option maxRecDepth 100000
set_option maxHeartbeats 8000000
namespace Go.Proofs.YtdlabakleldgaaaGreatDoor
open Go.RowKit Go.Maps
mutual
def Tr (w:World) (F:Nat→Prop):Rl.Ex→Value→Prop
 | .mk op set kids,v=>∃ (a:Option Addr) (cap:Nat),v=.agg #[.int .u8 op,.int .u32 set,.slice a kids.length cap]∧kids.length≤cap ∧
   (kids≠[]→∃b cs z,a=some ⟨b,0,none⟩∧F b∧w.heap[b]?=some (.cells cs 117 z)∧fM w F kids (fun j=>cs[j]?))
def fM (w:World) (F:Nat→Prop):List Rl.Ex→(Nat→Option Value)→Prop
 | [],_=>True
 | e::es,c=>(∃o s k,c 0=some o∧c 1=some s∧c 2=some k∧Tr w F e (.agg #[o,s,k]))∧fM w F es (fun j=>c (j+3))
end
theorem Tr.form {w:World} {F:Nat→Prop} {e:Rl.Ex} {v:Value} (h:Tr w F e v):∃op set a n cap,v=.agg #[.int .u8 op,.int .u32 set,.slice a n cap]:=by
 obtain⟨op,set,kids⟩:=e
 unfold Tr at h
 obtain⟨a,cap,h1,_⟩:=h
 exact⟨op,set,a,kids.length,cap,h1⟩
mutual
theorem Tr.fu {w w':World} {F F':Nat→Prop} (hk:∀b,F b→b < w.heap.size→(∃cs z,w.heap[b]?=some (.cells cs 117 z))→F' b∧w'.heap[b]?=w.heap[b]?):∀(e:Rl.Ex) (v:Value),Tr w F e v→Tr w' F' e v
 | .mk op set kids,v,h=>by
  unfold Tr at h ⊢
  obtain⟨a,cap,h1,hc,h2⟩:=h
  refine⟨a,cap,h1,hc,fun hn=>?_⟩
  obtain⟨b,cs,z,h3,h4,h5,h6⟩:=h2 hn
  have hb:=hk b h4 (Array.getElem?_eq_some_iff.1 h5).1 ⟨cs,z,h5⟩
  exact⟨b,cs,z,h3,hb.1,hb.2.trans h5,fM.fu hk kids _ h6⟩
theorem fM.fu {w w':World} {F F':Nat→Prop} (hk:∀b,F b→b < w.heap.size→(∃cs z,w.heap[b]?=some (.cells cs 117 z))→F' b∧w'.heap[b]?=w.heap[b]?):∀(es:List Rl.Ex) (c:Nat→Option Value),fM w F es c→fM w' F' es c
 | [],_,_=>by unfold fM;trivial
 | e::es,c,h=>by
  unfold fM at h ⊢
  obtain⟨⟨o,s,k,h0,h1,h2,h3⟩,h4⟩:=h
  exact⟨⟨o,s,k,h0,h1,h2,Tr.fu hk e _ h3⟩,fM.fu hk es _ h4⟩
end
theorem Tr.keep {w w':World} {F F':Nat→Prop} (hk:∀b,F b→b < w.heap.size→F' b∧w'.heap[b]?=w.heap[b]?) (e:Rl.Ex) (v:Value) (h:Tr w F e v):Tr w' F' e v:=Tr.fu (fun b h1 h2 _=>hk b h1 h2) e v h
theorem fM.keep {w w':World} {F F':Nat→Prop} (hk:∀b,F b→b < w.heap.size→F' b∧w'.heap[b]?=w.heap[b]?) (es:List Rl.Ex) (c:Nat→Option Value) (h:fM w F es c):fM w' F' es c:=fM.fu (fun b h1 h2 _=>hk b h1 h2) es c h
theorem fM.zO {w:World} {F:Nat→Prop}:∀(es:List Rl.Ex) {c c':Nat→Option Value},(∀j,j < 3*es.length→c j=c' j)→fM w F es c→fM w F es c'
 | [],_,_,_,_=>by unfold fM;trivial
 | e::es,c,c',hc,h=>by
  unfold fM at h ⊢
  simp only [List.length_cons] at hc
  obtain⟨⟨o,s,k,h0,h1,h2,h3⟩,h4⟩:=h
  exact⟨⟨o,s,k,(hc 0 (by omega)).symm.trans h0,(hc 1 (by omega)).symm.trans h1,(hc 2 (by omega)).symm.trans h2,h3⟩,fM.zO es (fun j hj=>hc (j+3) (by omega)) h4⟩
theorem fM.snoc {w:World} {F:Nat→Prop} {e:Rl.Ex} {o s k:Value} (he:Tr w F e (.agg #[o,s,k])):∀(es:List Rl.Ex) (xs:List Value),xs.length=3*es.length→fM w F es (fun j=>xs[j]?)→fM w F (es++[e]) (fun j=>(xs++[o,s,k])[j]?)
 | [],xs,hl,_=>by
  obtain rfl:xs=[]:=List.length_eq_zero_iff.1 (by simpa using hl)
  show fM w F [e] _
  unfold fM
  exact⟨⟨o,s,k,rfl,rfl,rfl,he⟩,by unfold fM;trivial⟩
 | d::es,xs,hl,h=>by
  rw [List.cons_append]
  unfold fM at h ⊢
  simp only [List.length_cons] at hl
  match xs,hl,h with
  | a::b::c::xs,hl,h=>
   obtain⟨⟨o1,s1,k1,h0,h1,h2,h3⟩,h4⟩:=h
   refine⟨⟨o1,s1,k1,h0,h1,h2,h3⟩,?_⟩
   have:=fM.snoc he es xs (by simp at hl;omega) (fM.zO es (fun j _=>by simp) h4)
   exact fM.zO (es++[e]) (fun j _=>by simp) this
  | [_,_],hl,_=>simp at hl;omega
  | [_],hl,_=>simp at hl;omega
  | [],hl,_=>simp at hl
theorem fM.one {w:World} {F:Nat→Prop} {e:Rl.Ex} {xs:List Value} (h:fM w F [e] (fun j=>xs[j]?)) (hl:xs.length=3):∃o s k,xs=[o,s,k]∧Tr w F e (.agg #[o,s,k]):=by
 unfold fM at h
 obtain⟨⟨o,s,k,h0,h1,h2,h3⟩,_⟩:=h
 match xs,hl,h0,h1,h2 with
 | [a,b,c],_,h0,h1,h2=>
  simp at h0 h1 h2
  subst h0 h1 h2
  exact⟨_,_,_,rfl,h3⟩
theorem Tr.row {w:World} {F F':Nat→Prop} {base:Nat} {v:Value} {es:List Rl.Ex} {xs:List Value} (op:Int) (ho:w.ownsRow base 117 3 v es.length xs) (ht:fM w F es (fun j=>xs[j]?)) (hv:∀g,v.ownBlock=some g→F' g) (hF:∀b,F b→F' b) (hne:es≠[]):
  Tr w F' (.mk op 0 es) (.agg #[.int .u8 op,.int .u32 0,v]):=by
 obtain⟨hl,⟨_,h0⟩ | ⟨g,cap,cur,rfl,h1,h2,h3,h4,h5,h6⟩⟩:=ho
 ·exact absurd (List.length_eq_zero_iff.1 h0) hne
 ·unfold Tr
  refine⟨some ⟨g,0,none⟩,cap,rfl,h3,fun _=>⟨g,cur,(0,0),rfl,hv g rfl,h2,?_⟩⟩
  have h7:=fM.keep (w':=w) (F':=F') (fun b hb _=>⟨hF b hb,rfl⟩) es _ ht
  refine fM.zO es (fun j hj=>?_) h7
  show xs[j]?=cur[j]?
  rw [←h6,List.getElem?_take,if_pos (by omega)]
  simp
theorem nI:(Tryz.prog.info? 117).map (fun i=>(i.zero,i.size,i.bytes))=some (some (.agg #[.int .u8 0,.int .u32 0,.slice none 0 0]),3,32):=by kernel_rfl
theorem info_parts {P:Program} {e:TypeId} {z:Value} {n b:Nat} (h:(P.info? e).map (fun i=>(i.zero,i.size,i.bytes))=some (some z,n,b)):∃i,P.info? e=some i∧i.zero=some z∧i.size=n∧i.bytes=b:=by
 cases hi:P.info? e with
 | none=>rw [hi] at h;cases h
 | some i=>
  rw [hi] at h
  simp only [Option.map_some,Option.some.injEq,Prod.mk.injEq] at h
  exact⟨i,rfl,h.1,h.2.1,h.2.2⟩
theorem tC (wr:World) (o s:Int) (k:Value):∀j u,[Value.int .u8 o,Value.int .u32 s,k][j]?=some u→(wr.alloc (.cells #[.int .u8 o,.int .u32 s,k] 117)).cell? ((⟨wr.heap.size,0,none⟩:Addr).add j)=some u:=by
 intro j u hj
 rw [Addr.add_mid,Nat.zero_add,cell_of_row _ _ _ _ _ _ (heap_alloc_new _ _)]
 simpa using hj
theorem o8 (o s:Int) (a:Option Addr) (n c:Nat):∀u∈[Value.int .u8 o,Value.int .u32 s,Value.slice a n c],u.oneCell'=true:=by
 intro u hu
 simp at hu
 rcases hu with rfl | rfl | rfl <;> rfl
def Xb (w:World) (b:Nat) (o s k:Value):Prop:=w.heap[b]?=some (.cells #[o,s,k] 117 (0,0))
theorem Xb.new (w:World) (o s k:Value):Xb (w.alloc (.cells #[o,s,k] 117)) w.heap.size o s k:=heap_alloc_new _ _
theorem Xb.fz {w:World} {b:Nat} {o s k:Value} (h:Xb w b o s k) (j:Nat):w.frozen? ⟨b,j,none⟩=false:=by simp [World.frozen?,show w.heap[b]?=_ from h]
theorem Xb.c0 {w:World} {b:Nat} {o s k:Value} (h:Xb w b o s k):w.cell? ⟨b,0,none⟩=some o:=(cell_of_row _ _ _ _ _ _ h).trans rfl
theorem Xb.c1 {w:World} {b:Nat} {o s k:Value} (h:Xb w b o s k):w.cell? ⟨b,1,none⟩=some s:=(cell_of_row _ _ _ _ _ _ h).trans rfl
theorem Xb.c2 {w:World} {b:Nat} {o s k:Value} (h:Xb w b o s k):w.cell? ⟨b,2,none⟩=some k:=(cell_of_row _ _ _ _ _ _ h).trans rfl
theorem Xb.lt {w:World} {b:Nat} {o s k:Value} (h:Xb w b o s k):b < w.heap.size:=(Array.getElem?_eq_some_iff.1 h).1
theorem Xb.only {w w':World} {b:Nat} {o s k:Value} {P:Nat→Prop} (h:Xb w b o s k) (ho:Only P w w') (hn:¬ P b):Xb w' b o s k:=(ho.block b h.lt hn).trans h
theorem Xb.alloc {w:World} {b:Nat} {o s k:Value} (h:Xb w b o s k) (ob:Obj):Xb (w.alloc ob) b o s k:=(Below.heap_alloc _ _ _ h.lt).trans h
def zQ (rb:Nat) (S:ByteArray) (x:Rd) (w:World) (F:Rl.R (Rl.Ex × List Rl.Tk × Nat)) (e:Ending) (w':World):Prop:=
 match F with
 | .error f=>e=.panicked (BV f.1 f.2)∧Only (·=rb) w w'
 | .ok (ex,ts,p)=>∃v,e=.returned v∧Tr w' (fun b=>w.heap.size≤b) ex v∧In w' rb S (x.ay p) ts∧Only (·=rb) w w'
def YD (rb:Nat) (S:ByteArray) (x:Rd) (F:Nat→Prop) (w:World) (R:Rl.R (Rl.Ex × List Rl.Tk)) (e:Ending) (w':World):Prop:=
 match R with
 | .error f=>e=.panicked (BV f.1 f.2)∧Only (·=rb) w w'
 | .ok (ex,ts)=>∃v,e=.returned v∧Tr w' (fun b=>F b∨w.heap.size≤b) ex v∧In w' rb S x ts∧Only (·=rb) w w'
theorem Ch (e:Rl.Ex) (t:Rl.Tk) (ts:List Rl.Tk):Rl.often e (t::ts)=if t.bad=true then .error (20,t.at') else if t.text=[42] then .ok (.mk 4 0 [e],ts) else if t.text=[43] then .ok (.mk 5 0 [e],ts) else if t.text=[63] then .ok (.mk 6 0 [e],ts) else .ok (e,t::ts):=rfl
theorem Tr.one {w:World} {F F':Nat→Prop} {ex:Rl.Ex} {o s k:Value} {g:Nat} (op:Int) (h:Tr w F ex (.agg #[o,s,k])) (hg:w.heap[g]?=some (.cells #[o,s,k] 117 (0,0))) (hF:∀b,F b→F' b) (hF':F' g):
  Tr w F' (.mk op 0 [ex]) (.agg #[.int .u8 op,.int .u32 0,.slice (some ⟨g,0,none⟩) 1 1]):=by
 unfold Tr
 refine⟨some ⟨g,0,none⟩,1,rfl,Nat.le_refl _,fun _=>⟨g,_,_,rfl,hF',hg,?_⟩⟩
 unfold fM
 exact⟨⟨o,s,k,rfl,rfl,rfl,h.keep (fun b hb _=>⟨hF b hb,rfl⟩)⟩,by unfold fM;trivial⟩
def aV (w:World) (z:Nat) (a b c:Value):World:=((w.setCell ⟨z,0,none⟩ a).setCell ⟨z,1,none⟩ b).setCell ⟨z,2,none⟩ c
theorem lG (w:World) (z:Nat) (a b c:Value):(aV w z a b c).heap.size=w.heap.size:=by simp [aV,World.setCell]
theorem dI (w:World) {z g:Nat} (a b c:Value) (h:g≠z):(aV w z a b c).heap[g]?=w.heap[g]?:=
 (Below.heap_setCell _ _ _ _ (fun e=>h e)).trans ((Below.heap_setCell _ _ _ _ (fun e=>h e)).trans (Below.heap_setCell _ _ _ _ (fun e=>h e)))
theorem Xb.aV {w:World} {z:Nat} {o s k:Value} (h:Xb w z o s k) (a b c:Value):Xb (aV w z a b c) z a b c:=aa (aa (aa h a) b) c
theorem aI {fn:Func} {p:Tmp} (h:fn.results=#[.cell p 117]) (tmps:Array Value) {w:World} {g:Nat} {o s k:Value} (hp:tmps.getD p undef=.pointer (some ⟨g,0,none⟩)) (hg:Xb w g o s k):(results fn tmps).run Tryz.prog w=.ok (.agg #[o,s,k]) w:=by
 obtain⟨i,hi,_,hz,_⟩:=info_parts nI
 exact results_cell_row h tmps w g 117 _ (0,0) _ hp hg Tryz.underlying117 rfl (by rw [hi];simp [hz])
theorem In.aV {w:World} {rb:Nat} {S:ByteArray} {x:Rd} {ts:List Rl.Tk} (h:In w rb S x ts) {z:Nat} (hz:z≠rb) (a b c:Value):In (aV w z a b c) rb S x ts:=((h.setOther hz a).setOther hz b).setOther hz c
theorem Only.aV {P:Nat→Prop} {w0 w:World} (h:Only P w0 w) {z:Nat} (hz:w0.heap.size≤z) (a b c:Value):Only P w0 (aV w z a b c):=((h.aS (p:=⟨z,0,none⟩) hz a).aS (p:=⟨z,1,none⟩) hz b).aS (p:=⟨z,2,none⟩) hz c
theorem Tr.later {w w':World} {F F':Nat→Prop} {rb:Nat} {ex:Rl.Ex} {v:Value} (h:Tr w F ex v) (ho:Only (·=rb) w w') (hF:∀b,F b→b≠rb) (hF':∀b,F b→F' b):Tr w' F' ex v:=
 h.keep fun b hb hl=>⟨hF' b hb,ho.block b hl (hF b hb)⟩
theorem wI (rb:Nat) (S:ByteArray) (x:Rd) (F:Nat→Prop) (ex:Rl.Ex) (v:Value) (ts:List Rl.Tk) (w:World) (h:In w rb S x ts) (hS:S.size≤4096) (hT:Tr w F ex v) (hF:∀b,F b→b≠rb):
  Calls Tryz.prog 135 #[.pointer (some ⟨rb,0,none⟩),v] w (YD rb S x F w (Rl.often ex ts)):=by
 obtain⟨o,s,a,n,c,rfl⟩:=hT.form
 cases ts with
 | nil=>obtain⟨i,_,h2,_⟩:=h;exact h2.elim
 | cons t ts=>
  have hlt:=h.lt
  have HT:=zH hT
  have HF:=zH hF
  have HI:Hid (In ((w.alloc (.cells #[.int .u8 o,.int .u32 s,.slice a n c] 117)).alloc (.cells #[.int .u8 0,.int .u32 0,.slice none 0 0] 117)) rb S x (t::ts)):=(h.alloc _).alloc _
  have iA:Hid (Only (·=rb) w ((w.alloc (.cells #[.int .u8 o,.int .u32 s,.slice a n c] 117)).alloc (.cells #[.int .u8 0,.int .u32 0,.slice none 0 0] 117))):=((Only.refl (·=rb) w).alloc _).alloc _
  have X0:Hid (Xb ((w.alloc (.cells #[.int .u8 o,.int .u32 s,.slice a n c] 117)).alloc (.cells #[.int .u8 0,.int .u32 0,.slice none 0 0] 117)) w.heap.size (.int .u8 o) (.int .u32 s) (.slice a n c)):=(Xb.new w _ _ _).alloc _
  have Z0:Hid (Xb ((w.alloc (.cells #[.int .u8 o,.int .u32 s,.slice a n c] 117)).alloc (.cells #[.int .u8 0,.int .u32 0,.slice none 0 0] 117)) (w.heap.size+1) (.int .u8 0) (.int .u32 0) (.slice none 0 0)):=heap_alloc2_new _ _ _
  rw [Ch]
  clear h hT hF
  by_cases hb:t.bad=true
  ·rw [if_pos hb]
   have T1:Hid (Rl.took 42 (t::ts)=.error (20,t.at')):=by show Rl.took 42 (t::ts)=.error (20,t.at');rw [b_,if_pos hb]
   clear hb
   go_enter Tryz.func135,Tryz.ntmps135
   go_wp2_with (go_at_call 74;have hc:=aF 42 rb S x (t::ts) _ HI.out hS;rw [T1.out] at hc;refine hc.mono ?_;clear hc;rintro e w2 ⟨rfl,ho2⟩)
   exact⟨rfl,rfl,iA.out.trans ho2⟩
  ·rw [if_neg hb]
   by_cases ME:t.text=[42]
   ·rw [if_pos ME]
    have T1:Hid (Rl.took 42 (t::ts)=.ok (true,ts)):=by show Rl.took 42 (t::ts)=.ok (true,ts);rw [b_,if_neg hb,if_pos ME]
    clear hb ME
    go_enter Tryz.func135,Tryz.ntmps135
    go_wp2_with (go_at_call_of 74 (Value.string ⟨#[42]⟩);have hc:=aF 42 rb S x (t::ts) _ HI.out hS;rw [T1.out] at hc;refine hc.mono ?_;clear hc;rintro e w2 ⟨rfl,hI2,ho2⟩;have HI2:=zH hI2;clear hI2;have X2:Hid (Xb w2 w.heap.size (.int .u8 o) (.int .u32 s) (.slice a n c)):=X0.out.only ho2 (by omega);have Z2:Hid (Xb w2 (w.heap.size+1) (.int .u8 0) (.int .u32 0) (.slice none 0 0)):=Z0.out.only ho2 (by omega);have aK:Hid (Only (·=rb) w w2):=iA.out.trans ho2;clear ho2;have x0:=X2.out.c0;have x1:=X2.out.c1;have x2:=X2.out.c2;have z0:=Z2.out.c0;have z1:=Z2.out.c1;have z2:=Z2.out.c2;have wJ:=Z2.out.fz 0;have wK:=Z2.out.fz 1;have wL:=Z2.out.fz 2;have hl2:=Z2.out.lt)
    refine bodyPost_ret (v:=.agg #[.int .u8 4,.int .u32 0,.slice (some ⟨w2.heap.size,0,none⟩) 1 1]) (aI rfl _ rfl ((Z2.out.aV _ _ _).alloc _)) rfl ?_
    refine⟨_,rfl,?_,(HI2.out.aV (z:=w.heap.size+1) (by omega) _ _ _).alloc _,(aK.out.aV (z:=w.heap.size+1) (by omega) _ _ _).alloc _⟩
    have hg:=heap_alloc_new (aV w2 (w.heap.size+1) (.int .u8 4) (.int .u32 0) (.slice (some ⟨w2.heap.size,0,none⟩) 1 1)) (.cells #[.int .u8 o,.int .u32 s,.slice a n c] 117)
    rw [lG] at hg
    exact Tr.one 4 (HT.out.later ((aK.out.aV (z:=w.heap.size+1) (by omega) _ _ _).alloc _) HF.out (fun b hb=>hb)) hg (fun b hb=>Or.inl hb) (Or.inr (by omega))
   ·rw [if_neg ME]
    have T1:Hid (Rl.took 42 (t::ts)=.ok (false,t::ts)):=by show Rl.took 42 (t::ts)=.ok (false,t::ts);rw [b_,if_neg hb,if_neg ME]
    by_cases h43:t.text=[43]
    ·rw [if_pos h43]
     have T2:Hid (Rl.took 43 (t::ts)=.ok (true,ts)):=by show Rl.took 43 (t::ts)=.ok (true,ts);rw [b_,if_neg hb,if_pos h43]
     clear hb ME h43
     go_enter Tryz.func135,Tryz.ntmps135
     go_wp2_with (first |(go_at_call_of 74 (Value.string ⟨#[42]⟩);have hc:=aF 42 rb S x (t::ts) _ HI.out hS;rw [T1.out] at hc;refine hc.mono ?_;clear hc;rintro e w2 ⟨rfl,hI2,ho2⟩;have HI2:=zH hI2;clear hI2;have X2:Hid (Xb w2 w.heap.size (.int .u8 o) (.int .u32 s) (.slice a n c)):=X0.out.only ho2 (by omega);have Z2:Hid (Xb w2 (w.heap.size+1) (.int .u8 0) (.int .u32 0) (.slice none 0 0)):=Z0.out.only ho2 (by omega);have aK:Hid (Only (·=rb) w w2):=iA.out.trans ho2;clear ho2) |(go_at_call_of 74 (Value.string ⟨#[43]⟩);have hc:=aF 43 rb S x (t::ts) _ HI2.out hS;rw [T2.out] at hc;refine hc.mono ?_;clear hc;rintro e w3 ⟨rfl,dQ,ho3⟩;have HI3:=zH dQ;clear dQ;have X3:Hid (Xb w3 w.heap.size (.int .u8 o) (.int .u32 s) (.slice a n c)):=X2.out.only ho3 (by omega);have Z3:Hid (Xb w3 (w.heap.size+1) (.int .u8 0) (.int .u32 0) (.slice none 0 0)):=Z2.out.only ho3 (by omega);have fK:Hid (Only (·=rb) w w3):=aK.out.trans ho3;clear ho3;have x0:=X3.out.c0;have x1:=X3.out.c1;have x2:=X3.out.c2;have z0:=Z3.out.c0;have z1:=Z3.out.c1;have z2:=Z3.out.c2;have wJ:=Z3.out.fz 0;have wK:=Z3.out.fz 1;have wL:=Z3.out.fz 2;have hl3:=Z3.out.lt))
     refine bodyPost_ret (v:=.agg #[.int .u8 5,.int .u32 0,.slice (some ⟨w3.heap.size,0,none⟩) 1 1]) (aI rfl _ rfl ((Z3.out.aV _ _ _).alloc _)) rfl ?_
     refine⟨_,rfl,?_,(HI3.out.aV (z:=w.heap.size+1) (by omega) _ _ _).alloc _,(fK.out.aV (z:=w.heap.size+1) (by omega) _ _ _).alloc _⟩
     have hg:=heap_alloc_new (aV w3 (w.heap.size+1) (.int .u8 5) (.int .u32 0) (.slice (some ⟨w3.heap.size,0,none⟩) 1 1)) (.cells #[.int .u8 o,.int .u32 s,.slice a n c] 117)
     rw [lG] at hg
     exact Tr.one 5 (HT.out.later ((fK.out.aV (z:=w.heap.size+1) (by omega) _ _ _).alloc _) HF.out (fun b hb=>hb)) hg (fun b hb=>Or.inl hb) (Or.inr (by omega))
    ·rw [if_neg h43]
     have T2:Hid (Rl.took 43 (t::ts)=.ok (false,t::ts)):=by show Rl.took 43 (t::ts)=.ok (false,t::ts);rw [b_,if_neg hb,if_neg h43]
     by_cases h63:t.text=[63]
     ·rw [if_pos h63]
      have T3:Hid (Rl.took 63 (t::ts)=.ok (true,ts)):=by show Rl.took 63 (t::ts)=.ok (true,ts);rw [b_,if_neg hb,if_pos h63]
      clear hb ME h43 h63
      go_enter Tryz.func135,Tryz.ntmps135
      go_wp2_with (first |(go_at_call_of 74 (Value.string ⟨#[42]⟩);have hc:=aF 42 rb S x (t::ts) _ HI.out hS;rw [T1.out] at hc;refine hc.mono ?_;clear hc;rintro e w2 ⟨rfl,hI2,ho2⟩;have HI2:=zH hI2;clear hI2;have X2:Hid (Xb w2 w.heap.size (.int .u8 o) (.int .u32 s) (.slice a n c)):=X0.out.only ho2 (by omega);have Z2:Hid (Xb w2 (w.heap.size+1) (.int .u8 0) (.int .u32 0) (.slice none 0 0)):=Z0.out.only ho2 (by omega);have aK:Hid (Only (·=rb) w w2):=iA.out.trans ho2;clear ho2) |(go_at_call_of 74 (Value.string ⟨#[43]⟩);have hc:=aF 43 rb S x (t::ts) _ HI2.out hS;rw [T2.out] at hc;refine hc.mono ?_;clear hc;rintro e w3 ⟨rfl,dQ,ho3⟩;have HI3:=zH dQ;clear dQ;have X3:Hid (Xb w3 w.heap.size (.int .u8 o) (.int .u32 s) (.slice a n c)):=X2.out.only ho3 (by omega);have Z3:Hid (Xb w3 (w.heap.size+1) (.int .u8 0) (.int .u32 0) (.slice none 0 0)):=Z2.out.only ho3 (by omega);have fK:Hid (Only (·=rb) w w3):=aK.out.trans ho3;clear ho3) |(go_at_call_of 74 (Value.string ⟨#[63]⟩);have hc:=aF 63 rb S x (t::ts) _ HI3.out hS;rw [T3.out] at hc;refine hc.mono ?_;clear hc;rintro e w4 ⟨rfl,nH,bI⟩;have HI4:=zH nH;clear nH;have X4:Hid (Xb w4 w.heap.size (.int .u8 o) (.int .u32 s) (.slice a n c)):=X3.out.only bI (by omega);have Z4:Hid (Xb w4 (w.heap.size+1) (.int .u8 0) (.int .u32 0) (.slice none 0 0)):=Z3.out.only bI (by omega);have eD:Hid (Only (·=rb) w w4):=fK.out.trans bI;clear bI;have x0:=X4.out.c0;have x1:=X4.out.c1;have x2:=X4.out.c2;have z0:=Z4.out.c0;have z1:=Z4.out.c1;have z2:=Z4.out.c2;have wJ:=Z4.out.fz 0;have wK:=Z4.out.fz 1;have wL:=Z4.out.fz 2;have hl4:=Z4.out.lt))
      refine bodyPost_ret (v:=.agg #[.int .u8 6,.int .u32 0,.slice (some ⟨w4.heap.size,0,none⟩) 1 1]) (aI rfl _ rfl ((Z4.out.aV _ _ _).alloc _)) rfl ?_
      refine⟨_,rfl,?_,(HI4.out.aV (z:=w.heap.size+1) (by omega) _ _ _).alloc _,(eD.out.aV (z:=w.heap.size+1) (by omega) _ _ _).alloc _⟩
      have hg:=heap_alloc_new (aV w4 (w.heap.size+1) (.int .u8 6) (.int .u32 0) (.slice (some ⟨w4.heap.size,0,none⟩) 1 1)) (.cells #[.int .u8 o,.int .u32 s,.slice a n c] 117)
      rw [lG] at hg
      exact Tr.one 6 (HT.out.later ((eD.out.aV (z:=w.heap.size+1) (by omega) _ _ _).alloc _) HF.out (fun b hb=>hb)) hg (fun b hb=>Or.inl hb) (Or.inr (by omega))
     ·rw [if_neg h63]
      have T3:Hid (Rl.took 63 (t::ts)=.ok (false,t::ts)):=by show Rl.took 63 (t::ts)=.ok (false,t::ts);rw [b_,if_neg hb,if_neg h63]
      clear hb ME h43 h63
      go_enter Tryz.func135,Tryz.ntmps135
      go_wp2_with (first |(go_at_call_of 74 (Value.string ⟨#[42]⟩);have hc:=aF 42 rb S x (t::ts) _ HI.out hS;rw [T1.out] at hc;refine hc.mono ?_;clear hc;rintro e w2 ⟨rfl,hI2,ho2⟩;have HI2:=zH hI2;clear hI2;have X2:Hid (Xb w2 w.heap.size (.int .u8 o) (.int .u32 s) (.slice a n c)):=X0.out.only ho2 (by omega);have Z2:Hid (Xb w2 (w.heap.size+1) (.int .u8 0) (.int .u32 0) (.slice none 0 0)):=Z0.out.only ho2 (by omega);have aK:Hid (Only (·=rb) w w2):=iA.out.trans ho2;clear ho2) |(go_at_call_of 74 (Value.string ⟨#[43]⟩);have hc:=aF 43 rb S x (t::ts) _ HI2.out hS;rw [T2.out] at hc;refine hc.mono ?_;clear hc;rintro e w3 ⟨rfl,dQ,ho3⟩;have HI3:=zH dQ;clear dQ;have X3:Hid (Xb w3 w.heap.size (.int .u8 o) (.int .u32 s) (.slice a n c)):=X2.out.only ho3 (by omega);have Z3:Hid (Xb w3 (w.heap.size+1) (.int .u8 0) (.int .u32 0) (.slice none 0 0)):=Z2.out.only ho3 (by omega);have fK:Hid (Only (·=rb) w w3):=aK.out.trans ho3;clear ho3) |(go_at_call_of 74 (Value.string ⟨#[63]⟩);have hc:=aF 63 rb S x (t::ts) _ HI3.out hS;rw [T3.out] at hc;refine hc.mono ?_;clear hc;rintro e w4 ⟨rfl,nH,bI⟩;have HI4:=zH nH;clear nH;have X4:Hid (Xb w4 w.heap.size (.int .u8 o) (.int .u32 s) (.slice a n c)):=X3.out.only bI (by omega);have Z4:Hid (Xb w4 (w.heap.size+1) (.int .u8 0) (.int .u32 0) (.slice none 0 0)):=Z3.out.only bI (by omega);have eD:Hid (Only (·=rb) w w4):=fK.out.trans bI;clear bI;have x0:=X4.out.c0;have x1:=X4.out.c1;have x2:=X4.out.c2;have z0:=Z4.out.c0;have z1:=Z4.out.c1;have z2:=Z4.out.c2;have wJ:=Z4.out.fz 0;have wK:=Z4.out.fz 1;have wL:=Z4.out.fz 2;have hl4:=Z4.out.lt))
      refine bodyPost_ret (v:=.agg #[.int .u8 o,.int .u32 s,.slice a n c]) (aI rfl _ rfl ((Z4.out.aV _ _ _))) rfl ?_
      exact⟨_,rfl,HT.out.later (eD.out.aV (z:=w.heap.size+1) (by omega) _ _ _) HF.out (fun b hb=>Or.inl hb),HI4.out.aV (z:=w.heap.size+1) (by omega) _ _ _,eD.out.aV (z:=w.heap.size+1) (by omega) _ _ _⟩
end Go.Proofs.YtdlabakleldgaaaGreatDoor
namespace Go.Proofs.YtdlabakleldgaaaGreatDoor
namespace Rl
theorem kz {c:UInt8} {ts ts':List Tk} {b:Bool} (h:took c ts=.ok (b,ts')):ts'.length≤ts.length∧(b=true→ts'.length < ts.length):=by
 cases ts with
 | nil=>cases h
 | cons t ts=>
  simp only [took] at h
  split at h
  ·cases h
  ·split at h
   ·cases h;simp
   ·cases h;simp
theorem dY {c:UInt8} {ts ts':List Tk} (h:want c ts=.ok ts'):ts'.length < ts.length:=by
 cases ts with
 | nil=>cases h
 | cons t ts=>
  simp only [want] at h
  split at h
  ·cases h
  ·split at h
   ·cases h;simp
   ·cases h
theorem bE {E:Env}:∀ {ts ts':List Tk} {a b:Int},names E ts a=.ok (b,ts')→ts'.length≤ts.length
 | [],_,_,_,h=>by cases h
 | t::ts,ts',a,b,h=>by
  simp only [names] at h
  split at h
  ·cases h
  ·split at h
   ·split at h
    ·cases h
    ·have:=bE h
     simp only [List.length_cons]
     omega
   ·cases h;simp
theorem qN {e e':Ex} {ts ts':List Tk} (h:often e ts=.ok (e',ts')):ts'.length≤ts.length:=by
 cases ts with
 | nil=>cases h
 | cons t ts=>
  simp only [often] at h
  split at h
  ·cases h
  ·split at h
   ·cases h;simp
   ·split at h
    ·cases h;simp
    ·split at h
     ·cases h;simp
     ·cases h;simp
theorem Jc {E:Env} {nc p p':Nat} {ts ts':List Tk} {b:Int} (h:fq E nc ts p=.ok (b,ts',p')) (hp:p≤200):ts'.length < ts.length∧p'≤200:=by
 cases ts with
 | nil=>cases h
 | cons t ts=>
  simp only [fq] at h
  split at h
  ·cases h
  ·split at h
   ·cases h;simp;omega
   ·split at h
    ·split at h
     ·cases h
     ·rename_i h1
      split at h
      ·cases h
      ·rename_i h2
       split at h
       ·cases h
       ·rename_i h3
        cases h
        have:=kz h1
        have:=bE h2
        have:=dY h3
        simp only [List.length_cons]
        omega
    ·split at h
     ·cases h
     ·cases h;simp;omega
theorem bF (E:Env) (nc:Nat):∀n,
  (∀d ts p e ts' p',either E nc n d ts p=.ok (e,ts',p')→p≤200→ts'.length≤ts.length∧p'≤200)∧
  (∀d ts p l e ts' p',alts E nc n d ts p l=.ok (e,ts',p')→p≤200→ts'.length≤ts.length∧p'≤200)∧
  (∀d ts p l e ts' p',row E nc n d ts p l=.ok (e,ts',p')→p≤200→ts'.length≤ts.length∧p'≤200)∧
  (∀d ts p e ts' p',thing E nc n d ts p=.ok (e,ts',p')→p≤200→ts'.length < ts.length∧p'≤200)
 | 0=>by
  refine⟨fun _ _ _ _ _ _ h=>?_,fun _ _ _ _ _ _ _ h=>?_,fun _ _ _ _ _ _ _ h=>?_,fun _ _ _ _ _ _ h=>?_⟩ <;> simp [either,alts,row,thing] at h
 | n+1=>by
  obtain⟨hE,hA,hR,hT⟩:=bF E nc n
  refine⟨fun d ts p e ts' p' h hp=>?_,fun d ts p l e ts' p' h hp=>?_,fun d ts p l e ts' p' h hp=>?_,fun d ts p e ts' p' h hp=>?_⟩
  ·simp only [either] at h
   split at h
   ·cases h
   ·rename_i h1
    have a1:=hR _ _ _ _ _ _ _ h1 hp
    have a2:=hA _ _ _ _ _ _ _ h a1.2
    omega
  ·simp only [alts] at h
   split at h
   ·cases h
   ·rename_i h1
    cases h
    have:=kz h1
    omega
   ·rename_i h1
    split at h
    ·cases h
    ·rename_i h2
     have a0:=kz h1
     have a1:=hR _ _ _ _ _ _ _ h2 hp
     have a2:=hA _ _ _ _ _ _ _ h a1.2
     omega
  ·cases ts with
   | nil=>simp [row,thing] at h
   | cons t ts=>
    simp only [row] at h
    split at h
    ·cases h
    ·split at h
     ·split at h
      ·cases h
      ·rename_i h1
       split at h
       ·cases h
       ·rename_i h2
        have a1:=hT _ _ _ _ _ _ h1 hp
        have a2:=qN h2
        have a3:=hR _ _ _ _ _ _ _ h a1.2
        omega
     ·cases h
      exact⟨Nat.le_refl _,hp⟩
  ·cases ts with
   | nil=>simp [row,thing] at h
   | cons t ts=>
    simp only [thing] at h
    split at h
    ·split at h
     ·cases h
     ·split at h
      ·cases h
      ·rename_i h1
       split at h
       ·cases h
       ·rename_i h2
        cases h
        have a1:=hE _ _ _ _ _ _ h1 hp
        have a2:=dY h2
        simp only [List.length_cons]
        omega
    ·split at h
     ·cases h
     ·rename_i h1
      cases h
      exact Jc h1 hp
end Rl
end Go.Proofs.YtdlabakleldgaaaGreatDoor
