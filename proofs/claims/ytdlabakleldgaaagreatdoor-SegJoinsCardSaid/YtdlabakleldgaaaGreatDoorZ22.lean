/- Sg8 En0 Tn0 Tn1 Tn2 -/
import Derived.Test.YtdlabakleldgaaaGreatDoorZ00
import Derived.Test.YtdlabakleldgaaaGreatDoorZ21
import Derived.Deep.AppendLies
import Derived.Test.YtdlabakleldgaaaGreatDoorZ10
import Derived.Test.YtdlabakleldgaaaGreatDoorZ03
import Derived.BigRegion
import Derived.Deep.RegionHeld3
set_option linter.unusedVariables false
set_option linter.unusedSimpArgs false
set_option maxRecDepth 100000
set_option maxHeartbeats 8000000
namespace Go.Proofs.YtdlabakleldgaaaGreatDoor
open Go.RowKit Go.Maps
open Rl (Ex)
mutual
def wY:Ex→Prop
 | .mk _ set kids=>0≤set∧set < 4294967296∧dK kids
def dK:List Ex→Prop
 | []=>True
 | e::es=>wY e∧dK es
end
mutual
theorem Tr.te {w:World} {F:Nat→Prop}:∀(e:Ex) (v:Value),Rl.Small e→wY e→Tr w F e v→Te w F e v
 | .mk op set kids,v,hs,ho,h=>by
  unfold Tr at h
  unfold wY at ho
  unfold Te
  obtain⟨a,cap,h1,h2,h3⟩:=h
  obtain⟨k1,k2⟩:=hs.kids
  refine⟨a,cap,h1,h2,by unfold maxLen;omega,ho.1,ho.2.1,fun hn=>?_⟩
  obtain⟨b,cs,z,g1,g2,g3,g4⟩:=h3 hn
  exact⟨b,0,g1,g2,fM.te kids b 0 _ (fun j=>by rw [Nat.zero_add];exact (cell_of_row _ _ _ _ _ _ g3).symm) k2 ho.2.2 g4⟩
theorem fM.te {w:World} {F:Nat→Prop}:∀(es:List Ex) (b off:Nat) (c:Nat→Option Value),(∀j,c j=w.cell? ⟨b,off+j,none⟩)→(∀k∈es,Rl.Small k)→dK es→fM w F es c→cZ w F es b off
 | [],_,_,_,_,_,_,_=>by unfold cZ;trivial
 | e::es,b,off,c,hc,hs,ho,h=>by
  unfold fM at h
  unfold dK at ho
  unfold cZ
  obtain⟨⟨o,s,k,c0,c1,c2,ht⟩,hr⟩:=h
  refine⟨⟨o,s,k,by rw [←c0,hc 0];rfl,by rw [←c1,hc 1],by rw [←c2,hc 2],Tr.te e _ (hs e (by simp)) ho.1 ht⟩,fM.te es b (off+3) _ (fun j=>?_) (fun k hk=>hs k (by simp [hk])) ho.2 hr⟩
  rw [hc (j+3)]
  congr 2
  omega
end
def RY (w:World) (F:Nat→Prop) (es:List Ex) (xs:List Value):Prop:=∀(i:Nat) (e:Ex),es[i]?=some e→∃o s k,xs[i*3]?=some o∧xs[i*3+1]?=some s∧xs[i*3+2]?=some k∧Te w F e (.agg #[o,s,k])
theorem RY.snoc {w:World} {F:Nat→Prop} {es:List Ex} {xs:List Value} (h:RY w F es xs) (hl:xs.length=es.length*3) {e:Ex} {o s k:Value} (he:Te w F e (.agg #[o,s,k])):RY w F (es++[e]) (xs++[o,s,k]):=by
 intro i x hx
 by_cases hlt:i < es.length
 ·rw [List.getElem?_append_left hlt] at hx
  obtain⟨o',s',k',h1,h2,h3,h4⟩:=h i x hx
  exact⟨o',s',k',by rw [List.getElem?_append_left (by omega)];exact h1,by rw [List.getElem?_append_left (by omega)];exact h2,by rw [List.getElem?_append_left (by omega)];exact h3,h4⟩
 ·have hi:=(List.getElem?_eq_some_iff.1 hx).1
  simp at hi
  obtain rfl:i=es.length:=by omega
  rw [List.getElem?_append_right (Nat.le_refl _)] at hx
  simp at hx
  subst hx
  refine⟨o,s,k,?_,?_,?_,he⟩
  ·rw [List.getElem?_append_right (by omega),hl];simp
  ·rw [List.getElem?_append_right (by omega),hl,show es.length*3+1 - es.length*3=1 by omega];rfl
  ·rw [List.getElem?_append_right (by omega),hl,show es.length*3+2 - es.length*3=2 by omega];rfl
theorem cZ.of {w W:World} {F F':Nat→Prop} (hk:Kp w W F) (hF:∀b,F b→F' b):∀(es:List Ex) (b off:Nat),(∀(i:Nat) (e:Ex),es[i]?=some e→∃o s k,W.cell? ⟨b,off+i*3,none⟩=some o∧W.cell? ⟨b,off+i*3+1,none⟩=some s∧W.cell? ⟨b,off+i*3+2,none⟩=some k∧Te w F e (.agg #[o,s,k]))→cZ W F' es b off
 | [],_,_,_=>by unfold cZ;trivial
 | e::es,b,off,h=>by
  unfold cZ
  obtain⟨o,s,k,h1,h2,h3,h4⟩:=h 0 e rfl
  refine⟨⟨o,s,k,by simpa using h1,by simpa using h2,by simpa using h3,Te.keep hk hF e _ h4⟩,cZ.of hk hF es b (off+3) (fun i x hx=>?_)⟩
  obtain⟨o,s,k,h1,h2,h3,h4⟩:=h (i+1) x (by simpa using hx)
  rw [show off+(i+1)*3=off+3+i*3 by omega] at h1 h2 h3
  exact⟨o,s,k,h1,h2,h3,h4⟩
theorem Lex.of {w W:World} {F:Nat→Prop} {es:List Ex} {xs:List Value} {v:Value} {base:Nat} (hT:RY w F es xs) (ho:W.ownsRow base 117 3 v es.length xs) (hk:Kp w W F) (hF:∀b,F b→b < W.heap.size) (hl:es.length≤1000):∃a c,v=.slice a es.length c∧Lex W (fun b=>b < W.heap.size) es a c:=by
 obtain⟨a,c,rfl⟩:=ah ho
 refine⟨a,c,rfl,by unfold maxLen;omega,fun hn=>?_⟩
 have h0:0 < es.length:=List.length_pos_iff.2 hn
 obtain⟨g,cap,hv,_,hl2,_,hc⟩:=ax ho h0
 injection hv with e1
 refine⟨g,0,e1,hl2,cZ.of hk hF es g 0 (fun i e hi=>?_)⟩
 have hi2:=(List.getElem?_eq_some_iff.1 hi).1
 obtain⟨o,s,k,h1,h2,h3,h4⟩:=hT i e hi
 exact⟨o,s,k,by rw [Nat.zero_add,hc _ (by omega)];exact h1,by rw [Nat.zero_add,hc _ (by omega)];exact h2,by rw [Nat.zero_add,hc _ (by omega)];exact h3,h4⟩
theorem iN {w W:World} (h:Only (fun _=>False) w W) {b k:Nat} {v:Value} (hc:w.cell? ⟨b,k,none⟩=some v):W.cell? ⟨b,k,none⟩=some v:=(World.cell?_of_block (a:=⟨b,k,none⟩) (h.block b (World.block_lt_of_cell? w _ hc) (fun h=>h))).trans hc
def Dj (v u:Value):Prop:=∀q,v.ownBlock=some q→u.ownBlock≠some q
theorem NW (W:World) (o p:Obj):((W.alloc o).alloc p).heap[W.heap.size]?=some o:=(Below.heap_alloc _ _ _ (by simp)).trans (heap_alloc_new W o)
theorem Gt (l:List Rl.fD) (B:Nat) (a:Option Addr) (c:Nat) (w:World) (hL:BI w B (.slice a l.length c) l) (hn:l.length≤24) (hS:∀r∈l,Rl.Small r.left∧Rl.Small r.right∧wY r.left∧wY r.right):
  Calls Tryz.prog 32 #[.slice a l.length c] w fun e w'=>∃a1 c1 a2 c2,e=.returned (.tuple #[.slice a1 l.length c1,.slice a2 l.length c2])∧Lex w' (fun b=>b < w'.heap.size) (l.map (·.left)) a1 c1∧Lex w' (fun b=>b < w'.heap.size) (l.map (·.right)) a2 c2∧Only (fun _=>False) w w':=by
 have X5:Hid (∀(k:Nat) (r:Rl.fD),l[k]?=some r→∃g op st a1 m1 c1 op' st' a2 m2 c2,a=some ⟨g,0,none⟩∧g < w.heap.size∧w.cell? ⟨g,k*7,none⟩=some (.int .u8 r.does)∧w.cell? ⟨g,k*7+1,none⟩=some (.int .u8 op)∧w.cell? ⟨g,k*7+2,none⟩=some (.int .u32 st)∧w.cell? ⟨g,k*7+3,none⟩=some (.slice a1 m1 c1)∧w.cell? ⟨g,k*7+4,none⟩=some (.int .u8 op')∧w.cell? ⟨g,k*7+5,none⟩=some (.int .u32 st')∧w.cell? ⟨g,k*7+6,none⟩=some (.slice a2 m2 c2)∧Te w (fun b=>b < w.heap.size) r.left (.agg #[.int .u8 op,.int .u32 st,.slice a1 m1 c1])∧Te w (fun b=>b < w.heap.size) r.right (.agg #[.int .u8 op',.int .u32 st',.slice a2 m2 c2])):=fun k r hr=>by
  obtain⟨g,op,st,a1,m1,c1,op',st',a2,m2,c2,e0,e1,e2,e3,e4,e5,e6,e7,e8,e9,e10⟩:=BI.get hL hr
  obtain⟨h1,h2,h3,h4⟩:=hS r (List.mem_of_getElem? hr)
  exact⟨g,op,st,a1,m1,c1,op',st',a2,m2,c2,e0,e1,e2,e3,e4,e5,e7,e8,e9,Tr.te _ _ h1 h3 (Tr.keep (fun b _ hl=>⟨hl,rfl⟩) _ _ e6),Tr.te _ _ h2 h4 (Tr.keep (fun b _ hl=>⟨hl,rfl⟩) _ _ e10)⟩
 obtain⟨i9,h9,PO,zN,PQ⟩:=info_parts nI
 obtain⟨n,hnl⟩:∃n,n=l.length:=⟨_,rfl⟩
 have jZ:=zH hnl
 rw [←hnl] at hn ⊢
 clear hL hS hnl
 go_enter Tryz.func32,Tryz.ntmps32
 go_wp2_with fail
 go_loopg [2,3,8] n (fun gh v1 v2 v3 wr=>∃(k:Nat) (xs ys:List Value) (aL aR:Option Addr) (cL cR:Nat) (W:World),W=wr∧gh=n - k∧k≤n∧v1=.slice aL k cL∧v2=.slice aR k cR∧v3=.int .i64 (k:Int)∧W.ownsRow w.heap.size 117 3 (.slice aL k cL) k xs∧W.ownsRow w.heap.size 117 3 (.slice aR k cR) k ys∧Dj (.slice aL k cL) (.slice aR k cR)∧RY w (fun b=>b < w.heap.size) ((l.take k).map (·.left)) xs∧RY w (fun b=>b < w.heap.size) ((l.take k).map (·.right)) ys∧Only (fun _=>False) w W)
 case atStart=>exact⟨0,[],[],none,none,0,0,_,rfl,rfl,Nat.zero_le _,rfl,rfl,rfl,World.ownsRow_nil _ _ _ _,World.ownsRow_nil _ _ _ _,fun q h=>by simp [Value.ownBlock] at h,fun i e h=>by simp at h,fun i e h=>by simp at h,Only.refl _ _⟩
 case round=>
  obtain⟨k,xs,ys,aL,aR,cL,cR,W,hW,rfl,hk,rfl,rfl,rfl,RZ,R4,hdj,htl,htr,ho⟩:=hrel
  subst hW
  have VF:=zH RZ
  have Re:=zH R4
  have Zv:=zH hdj
  have NY:=zH htl
  have Ui:=zH htr
  have HO:=zH ho
  by_cases hlt:k < n
  ·have t1:(k:Int) <(n:Int):=by omega
   obtain⟨r,hr⟩:∃r,l[k]?=some r:=⟨_,List.getElem?_eq_getElem (by rw [←jZ.out];exact hlt)⟩
   obtain⟨g,op,st,a1,m1,c1,op',st',a2,m2,c2,rfl,hgl,e0,e1,e2,e3,e4,e5,e6,tl,tr⟩:=X5.out k r hr
   have d0:=iN ho e0
   have d1:=iN ho e1
   have d2:=iN ho e2
   have d3:=iN ho e3
   have d4:=iN ho e4
   have d5:=iN ho e5
   have d6:=iN ho e6
   have abm:g < W.heap.size:=Nat.lt_of_lt_of_le hgl ho.size
   have NZ:Hid (Te w (fun b=>b < w.heap.size) r.left (.agg #[.int .u8 op,.int .u32 st,.slice a1 m1 c1])∧Te w (fun b=>b < w.heap.size) r.right (.agg #[.int .u8 op',.int .u32 st',.slice a2 m2 c2])):=⟨tl,tr⟩
   have EI:Hid (l.take (k+1)=l.take k++[r]):=by
    show _=_
    have hlt2:=(List.getElem?_eq_some_iff.1 hr).1
    rw [List.take_succ_eq_append_getElem hlt2,(List.getElem?_eq_some_iff.1 hr).2]
   have VG:Hid ((l.take k).length=k):=by
    show _=_
    rw [List.length_take,←jZ.out]
    omega
   clear RZ R4 hdj htl htr ho e0 e1 e2 e3 e4 e5 e6 tl tr hr
   go_wp2_with (first |(at_builtin;refine wpList_append_own_at _ rfl _ _ 83 rfl w.heap.size 117 i9 _ 3 32 Tryz.underlying83 h9 PO zN PQ rfl (by decide) _ _ _ rfl ((VF.out.alloc (.cells #[.int .u8 r.does,.int .u8 op,.int .u32 st,.slice a1 m1 c1,.int .u8 op',.int .u32 st',.slice a2 m2 c2] 119)).alloc (.cells #[.int .u8 op,.int .u32 st,.slice a1 m1 c1] 117)) ⟨W.heap.size+1,0,none⟩ 1 1 [.int .u8 op,.int .u32 st,.slice a1 m1 c1] rfl rfl (World.news_of_block (heap_alloc2_new W _ _)) (fun u hu=>by simp at hu;rcases hu with rfl | rfl | rfl <;> rfl) (by unfold maxLen;omega) (by omega) (by have:=HO.out.size;simp;omega) ?_;intro v8 w8 nk PY _ R6;have X6:Hid (Only (fun q=>(Value.slice aL k cL).ownBlock=some q) ((W.alloc (.cells #[.int .u8 r.does,.int .u8 op,.int .u32 st,.slice a1 m1 c1,.int .u8 op',.int .u32 st',.slice a2 m2 c2] 119)).alloc (.cells #[.int .u8 op,.int .u32 st,.slice a1 m1 c1] 117)) w8):=(Only.refl _ _).grown PY (fun k h=>h);obtain⟨Zw,Zx,rfl⟩:=ah nk;have HW8:=zH nk;have HB8:Hid ((Value.slice Zw (k+1) Zx).ownBlock=(Value.slice aL k cL).ownBlock∨(Value.slice Zw (k+1) Zx).ownBlock=some (W.heap.size+2)):=(by rw [show ((W.alloc (.cells #[.int .u8 r.does,.int .u8 op,.int .u32 st,.slice a1 m1 c1,.int .u8 op',.int .u32 st',.slice a2 m2 c2] 119)).alloc (.cells #[.int .u8 op,.int .u32 st,.slice a1 m1 c1] 117)).heap.size=W.heap.size+2 by simp] at R6;exact R6);have VH:w8.heap[W.heap.size]?=some (.cells #[.int .u8 r.does,.int .u8 op,.int .u32 st,.slice a1 m1 c1,.int .u8 op',.int .u32 st',.slice a2 m2 c2] 119 (0,0)):=(X6.out.block _ (by simp;omega) (fun e=>by have:=(VF.out.lt _ e).2;omega)).trans (NW W _ _);have y4:w8.cell? ⟨W.heap.size,4,none⟩=some (.int .u8 op'):=ae VH;have y5:w8.cell? ⟨W.heap.size,5,none⟩=some (.int .u32 st'):=ae VH;have y6:w8.cell? ⟨W.heap.size,6,none⟩=some (.slice a2 m2 c2):=ae VH;have ly:W.heap.size < w8.heap.size:=(Array.getElem?_eq_some_iff.1 VH).1;have HS8:Hid (W.heap.size+2≤w8.heap.size):=(by have:=X6.out.size;simp at this;exact this);have HR8:Hid (w8.ownsRow w.heap.size 117 3 (.slice aR k cR) k ys):=bq ((Re.out.alloc _).alloc _) X6.out (fun q hq e=>Zv.out q e hq);have HO9:Hid (Only (fun _=>False) w w8):=(((HO.out.alloc _).alloc _).mono (fun _ h=>h.elim)).trans X6.out |>.old (fun g hg=>Or.inl (VF.out.lt g hg).1);clear nk PY R6 VH) |(at_builtin;refine wpList_append_own_at _ rfl _ _ 83 rfl w.heap.size 117 i9 _ 3 32 Tryz.underlying83 h9 PO zN PQ rfl (by decide) _ _ _ rfl (HR8.out.alloc (.cells #[.int .u8 op',.int .u32 st',.slice a2 m2 c2] 117)) ⟨w8.heap.size,0,none⟩ 1 1 [.int .u8 op',.int .u32 st',.slice a2 m2 c2] rfl rfl (World.news_of_block (heap_alloc_new w8 _)) (fun u hu=>by simp at hu;rcases hu with rfl | rfl | rfl <;> rfl) (by unfold maxLen;omega) (by omega) (by have:=HO9.out.size;simp;omega) ?_;intro v10 wU jC Gg _ Kz;have sK:Hid (Only (fun q=>(Value.slice aR k cR).ownBlock=some q) (w8.alloc (.cells #[.int .u8 op',.int .u32 st',.slice a2 m2 c2] 117)) wU):=(Only.refl _ _).grown Gg (fun k h=>h);obtain⟨R7,R8,rfl⟩:=ah jC;have Zy:=zH jC;have ZA:Hid ((Value.slice R7 (k+1) R8).ownBlock=(Value.slice aR k cR).ownBlock∨(Value.slice R7 (k+1) R8).ownBlock=some (w8.heap.size+1)):=(by rw [show (w8.alloc (.cells #[.int .u8 op',.int .u32 st',.slice a2 m2 c2] 117)).heap.size=w8.heap.size+1 by simp] at Kz;exact Kz);clear jC Gg Kz))
   go_roundg (n -(k+1))
   case measure=>omega
   case rel=>
    refine⟨k+1,xs++[.int .u8 op,.int .u32 st,.slice a1 m1 c1],ys++[.int .u8 op',.int .u32 st',.slice a2 m2 c2],Zw,R7,Zx,R8,wU,rfl,rfl,by omega,rfl,rfl,by go_num,?_,Zy.out,?_,?_,?_,?_⟩
    ·refine bq (HW8.out.alloc _) sK.out (fun q hq e=>?_)
     rcases HB8.out with h | h
     ·exact Zv.out q (h.symm.trans hq) e
     ·rw [h] at hq
      injection hq with hq
      have:=(Re.out.lt q e).2
      omega
    ·intro q hq e
     rcases ZA.out with h | h
     ·rw [h] at e
      rcases HB8.out with h' | h'
      ·exact Zv.out q (h'.symm.trans hq) e
      ·rw [h'] at hq
       injection hq with hq
       have:=(Re.out.lt q e).2
       omega
     ·rw [h] at e
      injection e with e
      have:=(HW8.out.lt q hq).2
      omega
    ·rw [EI.out,List.map_append]
     exact NY.out.snoc (by rw [List.length_map,VG.out];exact VF.out.1) NZ.out.1
    ·rw [EI.out,List.map_append]
     exact Ui.out.snoc (by rw [List.length_map,VG.out];exact Re.out.1) NZ.out.2
    ·exact ((HO9.out.alloc _).mono (fun _ h=>h.elim)).trans sK.out |>.old (fun g hg=>Or.inl (HR8.out.lt g hg).1)
  ·have t2:decide ((k:Int) <(n:Int))=false:=decide_eq_false (by omega)
   have hkn:k=n:=by omega
   subst hkn
   have hst:l.take k=l:=by rw [jZ.out];exact List.take_length
   rw [hst] at htl htr
   clear NY Ui
   have NY:=zH htl
   have Ui:=zH htr
   clear RZ R4 hdj htl htr ho hst
   go_wp2_with fail
   have hkp:Kp w W (fun b=>b < w.heap.size):=Kp.only HO.out (fun _ _ h=>h)
   have hfl:∀b,b < w.heap.size→b < W.heap.size:=fun b hb=>Nat.lt_of_lt_of_le hb HO.out.size
   have eL:(l.map (·.left)).length=k:=by rw [List.length_map,←jZ.out]
   have eR:(l.map (·.right)).length=k:=by rw [List.length_map,←jZ.out]
   obtain⟨b1,f1,e1,x1⟩:=Lex.of (es:=l.map (·.left)) NY.out (by rw [eL];exact VF.out) hkp hfl (by rw [eL];omega)
   obtain⟨b2,f2,e2,x2⟩:=Lex.of (es:=l.map (·.right)) Ui.out (by rw [eR];exact Re.out) hkp hfl (by rw [eR];omega)
   injection e1 with p1 _ p3
   injection e2 with q1 _ q3
   subst p1 p3 q1 q3
   refine bodyPost_ret (v:=.tuple #[.slice aL k cL,.slice aR k cR]) (by simp [results,Tryz.results32]) rfl ⟨aL,cL,aR,cR,rfl,x1,x2,HO.out⟩
end Go.Proofs.YtdlabakleldgaaaGreatDoor
namespace Go.Proofs.YtdlabakleldgaaaGreatDoor
namespace Au
open Rl (Ex)
inductive Rt (R:Nat→Nat→Prop):Nat→Nat→Prop
 | refl (i:Nat):Rt R i i
 | step {i m j:Nat}:Rt R i m→R m j→Rt R i j
def VI (C:List Int) (set:Int) (i:Nat):Bool:=match C[i]? with
 | some c=>decide (0≤c∧c < 32∧set / 2 ^ c.toNat % 2=1)
 | none=>false
def hit (C:List Int) (set:Int) (i:Nat):Prop:=VI C set i=true
mutual
def mt (C:List Int):Ex→Nat→Nat→Prop
 | .mk op set kids,i,j=>
  if op=1 then j=i+1∧hit C set i
  else if op=2 then mts C kids i j
  else if op=3 then mta C kids i j
  else if op=4 then Rt (X7 C kids) i j
  else if op=5 then ∃m,Rt (X7 C kids) i m∧X7 C kids m j
  else if op=6 then i=j∨X7 C kids i j
  else i=j
def mts (C:List Int):List Ex→Nat→Nat→Prop
 | [],i,j=>i=j
 | k::ks,i,j=>∃m,mt C k i m∧mts C ks m j
def mta (C:List Int):List Ex→Nat→Nat→Prop
 | [],_,_=>False
 | k::ks,i,j=>mt C k i j∨mta C ks i j
def X7 (C:List Int):List Ex→Nat→Nat→Prop
 | [],_,_=>False
 | k::_,i,j=>mt C k i j
end
structure Clo (M:Nat→Nat→Prop) (s out next:Nat):Prop where
 f1:∀i j,s.testBit i=true→M i j→(out ||| next).testBit j=true
 f2:∀i j,out.testBit i=true→M i j→(out ||| next).testBit j=true
 so:∀j,(out ||| next).testBit j=true→∃i,s.testBit i=true∧Rt M i j
def sh (C:List Int) (set:Int) (s:Nat):Nat→Nat
 | 0=>0
 | k+1=>if s.testBit k=true∧VI C set k=true then sh C set s k ||| 2 ^(k+1) else sh C set s k
end Au
namespace Au
open Rl (Ex)
mutual
def turn:Ex→Ex
 | .mk op set kids=>.mk op set (if op=2 then (turns kids).reverse else turns kids)
def turns:List Ex→List Ex
 | []=>[]
 | e::es=>turn e::turns es
end
theorem gp:∀es:List Ex,turns es=es.map turn
 | []=>by simp [turns]
 | e::es=>by simp [turns,gp es]
theorem jc (es:List Ex):(turns es).length=es.length:=by rw [gp,List.length_map]
theorem Gu (es:List Ex):turns es.reverse=(turns es).reverse:=by rw [gp,gp,List.map_reverse]
end Au
end Go.Proofs.YtdlabakleldgaaaGreatDoor
namespace Go.Proofs.YtdlabakleldgaaaGreatDoor
open Go.RowKit Go.Maps
open Rl (Ex)
mutual
def X8:Ex→Nat
 | .mk _ _ kids=>1+jX kids
def jX:List Ex→Nat
 | []=>0
 | e::es=>X8 e+jX es
end
theorem Af:∀(a b:List Ex),jX (a++b)=jX a+jX b
 | [],b=>by simp [jX]
 | e::a,b=>by simp [jX,Af a b];omega
theorem Ag:∀(a:List Ex),jX a.reverse=jX a
 | []=>rfl
 | e::a=>by rw [List.reverse_cons,Af,Ag a];simp [jX];omega
abbrev iq:=Nat × Nat × List Ex
def EJ:List iq→Nat
 | []=>0
 | r::rs=>jX r.2.2+EJ rs
theorem yt:∀(a b:List iq),EJ (a++b)=EJ a+EJ b
 | [],b=>by simp [EJ]
 | e::a,b=>by simp [EJ,yt a b];omega
def kd (op:Int) (kids:List Ex):List Ex:=if op=2 then kids.reverse else kids
theorem yu (op:Int) (kids:List Ex):(kd op kids).length=kids.length:=by unfold kd;split <;> simp
theorem N7 (op:Int) (kids:List Ex):jX (kd op kids)=jX kids:=by unfold kd;split;exact Ag _;rfl
theorem EK (op set:Int) (kids:List Ex):Au.turn (.mk op set kids)=.mk op set (Au.turns (kd op kids)):=by
 unfold kd
 simp only [Au.turn]
 split
 ·rw [Au.Gu]
 ·rfl
def R9 (s:Nat):Nat→Prop:=fun b=>s≤b
def ZB (s:Nat) (W0:World) (K:Nat→Nat→Prop) (rows:List iq) (G:World→Prop):Prop:=
 ∀W:World,(∀b o v,K b o→W0.cell? ⟨b,o,none⟩=some v→W.cell? ⟨b,o,none⟩=some v)→(∀r∈rows,cZ W (R9 s) (Au.turns r.2.2) r.1 r.2.1)→G W
def Tg (W:World) (b:Nat):Prop:=∃cs,W.heap[b]?=some (.cells cs 117 (0,0))
structure gU (w W:World) (G:World→Prop) (K:Nat→Nat→Prop) (rows:List iq):Prop where
 on:Only (fun _=>False) w W
 pr:ZB w.heap.size W K rows G
 kk:∀x o,K x o→w.heap.size≤x∧Tg W x∧∀r∈rows,r.1=x→o < r.2.1
 ro:∀r∈rows,w.heap.size≤r.1∧Tg W r.1∧cZ W (fun b=>b < w.heap.size) r.2.2 r.1 r.2.1
 nd:(rows.map (·.1)).Nodup
theorem lQ {W W':World} {b o:Nat} (h:W'.heap[b]?=W.heap[b]?):W'.cell? ⟨b,o,none⟩=W.cell? ⟨b,o,none⟩:=World.cell?_of_block (a:=⟨b,o,none⟩) h
theorem gU.keep {w W W':World} {G:World→Prop} {K:Nat→Nat→Prop} {rows:List iq} (h:gU w W G K rows) (ho:Only (fun _=>False) w W') (hk:∀x,Tg W x→W'.heap[x]?=W.heap[x]?):gU w W' G K rows:=by
 have hT:∀x,Tg W x→Tg W' x:=fun x ⟨cs,hx⟩=>⟨cs,(hk x ⟨cs,hx⟩).trans hx⟩
 refine⟨ho,?_,fun x o hx=>?_,fun r hr=>?_,h.nd⟩
 ·intro W2 h1 h2
  refine h.pr W2 (fun b o v hb hv=>h1 b o v hb ?_) h2
  rw [lQ (hk b (h.kk b o hb).2.1)]
  exact hv
 ·obtain⟨a,b,c⟩:=h.kk x o hx
  exact⟨a,hT x b,c⟩
 ·obtain⟨a,b,c⟩:=h.ro r hr
  refine⟨a,hT _ b,?_⟩
  have key:∀(es:List Ex) (off:Nat),cZ W (fun b=>b < w.heap.size) es r.1 off→cZ W' (fun b=>b < w.heap.size) es r.1 off:=by
   intro es
   induction es with
   | nil=>intro off _;unfold cZ;trivial
   | cons e es ih=>
    intro off ht
    unfold cZ at ht ⊢
    obtain⟨⟨o,s,k,h0,h1,h2,h3⟩,h4⟩:=ht
    have hc:=fun o=>lQ (o:=o) (hk r.1 b)
    refine⟨⟨o,s,k,(hc _).trans h0,(hc _).trans h1,(hc _).trans h2,Te.keep (fun b hb o v hv=>?_) (fun _ h=>h) e _ h3⟩,ih _ h4⟩
    have e1:=h.on.block b hb (fun h=>h)
    have e2:=ho.block b hb (fun h=>h)
    exact (lQ (e2.trans e1.symm)).trans hv
  exact key _ _ c
theorem gU.perm {w W:World} {G:World→Prop} {K:Nat→Nat→Prop} {rows rows':List iq} (h:gU w W G K rows) (hm:∀r,r∈rows'↔r∈rows) (hn:(rows'.map (·.1)).Nodup):gU w W G K rows':=
 ⟨h.on,fun W2 h1 h2=>h.pr W2 h1 (fun r hr=>h2 r ((hm r).2 hr)),fun x o hx=>⟨(h.kk x o hx).1,(h.kk x o hx).2.1,fun r hr=>(h.kk x o hx).2.2 r ((hm r).1 hr)⟩,fun r hr=>h.ro r ((hm r).1 hr),hn⟩
theorem gU.done {w W:World} {G:World→Prop} {K:Nat→Nat→Prop} {rows:List iq} {b off:Nat} (h:gU w W G K ((b,off,[])::rows)):gU w W G K rows:=by
 refine⟨h.on,fun W2 h1 h2=>h.pr W2 h1 (fun r hr=>?_),fun x o hx=>⟨(h.kk x o hx).1,(h.kk x o hx).2.1,fun r hr=>(h.kk x o hx).2.2 r (by simp [hr])⟩,fun r hr=>h.ro r (by simp [hr]),?_⟩
 ·rcases List.mem_cons.1 hr with rfl | hr
  ·simp only [Au.turns];unfold cZ;trivial
  ·exact h2 r hr
 ·have:=h.nd
  simp only [List.map_cons] at this
  exact (List.nodup_cons.1 this).2
theorem gU.step {w W W2:World} {G:World→Prop} {K:Nat→Nat→Prop} {rows kr:List iq} {b off:Nat} {op set:Int} {kids es:List Ex} {cs:Array Value} {a':Option Addr} (h:gU w W G K ((b,off,.mk op set kids::es)::rows))
  (hb:W.heap[b]?=some (.cells cs 117 (0,0))) (h2:W2.heap[b]?=some (.cells (cs.setIfInBounds (off+2) (.slice a' kids.length kids.length)) 117 (0,0))) (ho:Only (fun _=>False) w W2) (hx:∀x,x≠b→W2.heap[x]?=W.heap[x]?)
  (hkr:(kids=[]∧kr=[])∨(kids≠[]∧∃b',a'=some ⟨b',0,none⟩∧kr=[(b',0,kd op kids)]∧w.heap.size≤b'∧Tg W b'∧cZ W (fun b=>b < w.heap.size) (kd op kids) b' 0∧b'≠b∧(∀r∈rows,r.1≠b')∧∀o,¬ K b' o)):
  gU w W2 G (fun x o=>K x o∨(x=b∧off≤o∧o < off+3)) ((b,off+3,es)::(kr++rows)):=by
 have hnd:=h.nd
 simp only [List.map_cons] at hnd
 obtain⟨VJ,X9⟩:=List.nodup_cons.1 hnd
 have hne:∀r∈rows,r.1≠b:=fun r hr e=>VJ (List.mem_map.2 ⟨r,hr,e⟩)
 obtain⟨r1,r2,r3⟩:=h.ro (b,off,.mk op set kids::es) (by simp)
 simp only at r1 r2 r3
 unfold cZ at r3
 obtain⟨⟨o',s',k',c0,c1,c2,hTe⟩,hTs⟩:=r3
 obtain⟨a0,cap0,hv,hs0,hs1,hlc,hlm,_⟩:=hTe.kids
 simp only [Value.agg.injEq,Array.mk.injEq,List.cons.injEq,and_true] at hv
 obtain⟨rfl,rfl,rfl⟩:=hv
 have ZC:∀x,Tg W x→Tg W2 x:=fun x ⟨cs',hx'⟩=>by
  by_cases e:x=b
  ·subst e;exact⟨_,h2⟩
  ·exact⟨cs',(hx x e).trans hx'⟩
 have P7:∀o,W.cell? ⟨b,o,none⟩=cs[o]?:=fun o=>cell_of_row _ _ _ _ _ _ hb
 have KA:∀o,W2.cell? ⟨b,o,none⟩=(cs.setIfInBounds (off+2) (.slice a' kids.length kids.length))[o]?:=fun o=>cell_of_row _ _ _ _ _ _ h2
 have hin:off+2 < cs.size:=by
  rw [P7] at c2
  exact (Array.getElem?_eq_some_iff.1 c2).1
 have same:∀o,o≠off+2→W2.cell? ⟨b,o,none⟩=W.cell? ⟨b,o,none⟩:=fun o hn=>by
  rw [KA,P7,Array.getElem?_setIfInBounds_ne (by omega)]
 have old:∀x,x < w.heap.size→∀o v,W.cell? ⟨x,o,none⟩=some v→W2.cell? ⟨x,o,none⟩=some v:=fun x hl o v hv=>by
  have e1:=h.on.block x hl (fun h=>h)
  have e2:=ho.block x hl (fun h=>h)
  exact (lQ (e2.trans e1.symm)).trans hv
 have VK:∀(x:Nat),x≠b→∀(l:List Ex) (o:Nat),cZ W (fun b=>b < w.heap.size) l x o→cZ W2 (fun b=>b < w.heap.size) l x o:=by
  intro x hn l
  induction l with
  | nil=>intro o _;unfold cZ;trivial
  | cons e l ih=>
   intro o ht
   unfold cZ at ht ⊢
   obtain⟨⟨o',s,k,h0,h1,h2,h3⟩,h4⟩:=ht
   have hc:=fun o=>lQ (o:=o) (hx x hn)
   exact⟨⟨o',s,k,(hc _).trans h0,(hc _).trans h1,(hc _).trans h2,Te.keep (fun b hb o v hv=>old b hb o v hv) (fun _ h=>h) e _ h3⟩,ih _ h4⟩
 have ZE:∀(l:List Ex) (o:Nat),off+3≤o→cZ W (fun b=>b < w.heap.size) l b o→cZ W2 (fun b=>b < w.heap.size) l b o:=by
  intro l
  induction l with
  | nil=>intro o _ _;unfold cZ;trivial
  | cons e l ih=>
   intro o hof ht
   unfold cZ at ht ⊢
   obtain⟨⟨o',s,k,h0,h1,h2,h3⟩,h4⟩:=ht
   exact⟨⟨o',s,k,(same _ (by omega)).trans h0,(same _ (by omega)).trans h1,(same _ (by omega)).trans h2,Te.keep (fun b hb o v hv=>old b hb o v hv) (fun _ h=>h) e _ h3⟩,ih _ (by omega) h4⟩
 have ZF:∀x o,K x o→(x=b→o < off)∧∀r∈kr++rows,r.1=x→o < r.2.1:=fun x o hx'=>by
  have hh:=(h.kk x o hx').2.2
  refine⟨fun e=>hh (b,off,Ex.mk op set kids::es) (by simp) e.symm,fun r hr e=>?_⟩
  rcases List.mem_append.1 hr with hr | hr
  ·rcases hkr with ⟨_,rfl⟩ | ⟨_,b',_,rfl,_,_,_,_,_,hK⟩
   ·cases hr
   ·simp only [List.mem_singleton] at hr
    subst hr
    simp only at e
    subst e
    exact absurd hx' (hK o)
  ·exact hh r (by simp [hr]) e
 refine⟨ho,?_,fun x o hx'=>?_,fun r hr=>?_,?_⟩
 ·intro W3 g1 g2
  refine h.pr W3 (fun x o v hxo hv=>g1 x o v (Or.inl hxo) ?_) (fun r hr=>?_)
  ·by_cases e:x=b
   ·subst e
    rw [same o (by have:=(ZF x o hxo).1 rfl;omega)]
    exact hv
   ·rw [lQ (hx x e)]
    exact hv
  ·rcases List.mem_cons.1 hr with rfl | hr
   ·simp only [Au.turns]
    unfold cZ
    refine⟨⟨.int .u8 op,.int .u32 set,.slice a' kids.length kids.length,g1 b off _ (Or.inr ⟨rfl,by omega,by omega⟩) ((same _ (by omega)).trans c0),g1 b (off+1) _ (Or.inr ⟨rfl,by omega,by omega⟩) ((same _ (by omega)).trans c1),g1 b (off+2) _ (Or.inr ⟨rfl,by omega,by omega⟩) ?_,?_⟩,g2 (b,off+3,es) (by simp)⟩
    ·rw [KA,Array.getElem?_setIfInBounds_self_of_lt hin]
    ·rw [EK]
     unfold Te
     have hl:(Au.turns (kd op kids)).length=kids.length:=by rw [Au.jc,yu]
     rw [hl]
     refine⟨a',kids.length,rfl,Nat.le_refl _,hlm,hs0,hs1,fun hn=>?_⟩
     rcases hkr with ⟨rfl,_⟩ | ⟨_,b',rfl,rfl,hbn,_⟩
     ·exfalso;apply hn;unfold kd;split <;> simp [Au.turns]
     ·exact⟨b',0,rfl,hbn,g2 (b',0,kd op kids) (by simp)⟩
   ·exact g2 r (by simp [hr])
 ·rcases hx' with hx' | ⟨rfl,e1,e2⟩
  ·obtain⟨k1,k2,_⟩:=h.kk x o hx'
   refine⟨k1,ZC x k2,fun r hr e=>?_⟩
   rcases List.mem_cons.1 hr with rfl | hr
   ·have:=(ZF x o hx').1 e.symm
    simp only
    omega
   ·exact (ZF x o hx').2 r hr e
  ·refine⟨r1,⟨_,h2⟩,fun r hr e=>?_⟩
   rcases List.mem_cons.1 hr with rfl | hr
   ·exact e2
   ·rcases List.mem_append.1 hr with hr | hr
    ·rcases hkr with ⟨_,rfl⟩ | ⟨_,b',_,rfl,_,_,_,hb',_⟩
     ·cases hr
     ·simp only [List.mem_singleton] at hr
      subst hr
      exact absurd e hb'
    ·exact absurd e (hne r hr)
 ·rcases List.mem_cons.1 hr with rfl | hr
  ·exact⟨r1,⟨_,h2⟩,ZE _ _ (Nat.le_refl _) hTs⟩
  ·rcases List.mem_append.1 hr with hr | hr
   ·rcases hkr with ⟨_,rfl⟩ | ⟨_,b',_,rfl,q1,q2,q3,q4,_⟩
    ·cases hr
    ·simp only [List.mem_singleton] at hr
     subst hr
     exact⟨q1,ZC _ q2,VK _ q4 _ _ q3⟩
   ·obtain⟨p1,p2,p3⟩:=h.ro r (by simp [hr])
    exact⟨p1,ZC _ p2,VK _ (hne r hr) _ _ p3⟩
 ·simp only [List.map_cons,List.map_append]
  rw [List.nodup_cons]
  rcases hkr with ⟨_,rfl⟩ | ⟨_,b',_,rfl,_,_,_,hb',hr',_⟩
  ·exact⟨by simpa using VJ,by simpa using X9⟩
  ·simp only [List.map_cons,List.map_nil,List.singleton_append,List.mem_cons,not_or]
   refine⟨⟨fun e=>hb' e.symm,VJ⟩,List.nodup_cons.2 ⟨fun hm=>?_,X9⟩⟩
   obtain⟨r,hr,e⟩:=List.mem_map.1 hm
   exact hr' r hr e
theorem gU.start {w W:World} {b:Nat} {e:Ex} (ho:Only (fun _=>False) w W) (hb:w.heap.size≤b) (ht:Tg W b) (h:cZ W (fun b=>b < w.heap.size) [e] b 0):gU w W (fun W'=>cZ W' (R9 w.heap.size) [Au.turn e] b 0) (fun _ _=>False) [(b,0,[e])]:=
 ⟨ho,fun W2 _ h2=>by have:=h2 (b,0,[e]) (by simp);simpa [Au.turns] using this,fun x o h=>h.elim,fun r hr=>by
  simp only [List.mem_singleton] at hr
  subst hr
  exact⟨hb,ht,h⟩,by simp⟩
theorem gU.goal {w W:World} {G:World→Prop} {K:Nat→Nat→Prop} (h:gU w W G K []):G W:=h.pr W (fun _ _ _ _ hv=>hv) (fun r hr=>by cases hr)
structure X3 where
 op:Int
 set:Int
 a:Option Addr
 m:Nat
 c:Nat
def T3 (cs:Array Value) (n:Nat) (t:Nat→X3):Prop:=cs.size=n*3∧∀j,j < n→cs[j*3]?=some (.int .u8 (t j).op)∧cs[j*3+1]?=some (.int .u32 (t j).set)∧cs[j*3+2]?=some (.slice (t j).a (t j).m (t j).c)
def swp (n:Nat) (t:Nat→X3) (k:Nat):Nat→X3:=fun j=>if j < k∨n≤j+k then t (n - 1 - j) else t j
theorem T3.congr {cs:Array Value} {n:Nat} {t u:Nat→X3} (h:T3 cs n t) (e:∀j,j < n→t j=u j):T3 cs n u:=⟨h.1,fun j hj=>by rw [←e j hj];exact h.2 j hj⟩
def yw (x:X3):List Value:=[.int .u8 x.op,.int .u32 x.set,.slice x.a x.m x.c]
theorem T3.put {cs:Array Value} {n:Nat} {t:Nat→X3} (h:T3 cs n t) (k:Nat) (hk:k < n) (x:X3):T3 (jm (yw x) cs (k*3)) n (fun j=>if j=k then x else t j):=by
 have hl:(yw x).length=3:=rfl
 refine⟨by rw [wD];exact h.1,fun j hj=>?_⟩
 have key:∀d,d < 3→(jm (yw x) cs (k*3))[j*3+d]?=if j=k then (yw x)[d]? else cs[j*3+d]?:=fun d hd=>by
  rw [Ec _ _ _ _ (by rw [h.1,hl];omega),hl]
  by_cases e:j=k
  ·subst e
   rw [if_pos (by omega),if_pos rfl,show j*3+d - j*3=d by omega]
  ·rw [if_neg (by omega),if_neg e]
 have k0:=key 0 (by omega)
 rw [Nat.add_zero] at k0
 rw [k0,key 1 (by omega),key 2 (by omega)]
 by_cases e:j=k
 ·subst e
  simp [yw]
 ·simp only [if_neg e]
  exact h.2 j hj
theorem T3.swap {cs:Array Value} {n k l:Nat} {t:Nat→X3} {x y:X3} (h:T3 cs n (swp n t k)) (hkl:k+l+1=n) (hlt:k < l) (hx:swp n t k k=x) (hy:swp n t k l=y):T3 (jm (yw x) (jm (yw y) cs (k*3)) (l*3)) n (swp n t (k+1)):=by
 refine ((h.put k (by omega) y).put l (by omega) x).congr (fun j hj=>?_)
 have ey:y=t l:=by rw [←hy];unfold swp;rw [if_neg (by omega)]
 have ex:x=t k:=by rw [←hx];unfold swp;rw [if_neg (by omega)]
 by_cases e1:j=l
 ·subst e1
  rw [if_pos rfl,ex]
  unfold swp
  rw [if_pos (by omega),show n - 1 - j=k by omega]
 ·rw [if_neg e1]
  by_cases e2:j=k
  ·subst e2
   rw [if_pos rfl,ey]
   unfold swp
   rw [if_pos (by omega),show n - 1 - j=l by omega]
  ·rw [if_neg e2]
   unfold swp
   by_cases e3:j < k∨n≤j+k
   ·rw [if_pos e3,if_pos (by omega)]
   ·rw [if_neg e3,if_neg (by omega)]
theorem Gv {W:World} {b:Nat} {cs:Array Value} (h:W.heap[b]?=some (.cells cs 117 (0,0))) (o p:Nat) (u v:List Value):((W.setCells b o u).setCells b p v).drew.heap[b]?=some (.cells (jm v (jm u cs o) p) 117 (0,0)):=eX v p _ _ (eX u o W cs h)
theorem Gw {w W:World} {b:Nat} (h:Only (·=b) w W) (o p:Nat) (u v:List Value):Only (·=b) w ((W.setCells b o u).setCells b p v).drew:=(Only.setCells (S:=(·=b)) (show b=b from rfl) v p _ (Only.setCells (S:=(·=b)) (show b=b from rfl) u o _ h)).drew
theorem yx (b n:Nat) (t:Nat→X3) (cs:Array Value) (w:World) (hb:w.heap[b]?=some (.cells cs 117 (0,0))) (hT:T3 cs n t) (hn:1≤n) (hm:n≤1000000):
  Calls Tryz.prog 105 #[.slice (some ⟨b,0,none⟩) n n] w fun e w'=>e=.returned (.tuple #[])∧(∃cs',w'.heap[b]?=some (.cells cs' 117 (0,0))∧T3 cs' n (fun j=>t (n - 1 - j)))∧Only (·=b) w w':=by
 have HB:=zH hb
 have HT:=zH hT
 clear hb hT
 go_enter Tryz.func105,Tryz.ntmps105
 go_wp2_with fail
 go_loopg [2,3] n (fun gh v2 v3 wr=>∃(k l:Nat) (cs':Array Value) (W:World),W=wr∧gh=n - k∧k+l+1=n∧v2=.int .i64 (k:Int)∧v3=.int .i64 (l:Int)∧k≤l+1∧W.heap[b]?=some (.cells cs' 117 (0,0))∧T3 cs' n (swp n t k)∧Only (·=b) w W)
 case atStart=>exact⟨0,n - 1,cs,_,rfl,rfl,by omega,rfl,by rw [show ((n - 1:Nat):Int)=(n:Int) - 1 by omega],by omega,HB.out,HT.out.congr (fun j hj=>by unfold swp;rw [if_neg (by omega)]),Only.refl _ _⟩
 case round=>
  obtain⟨k,l,cs',W,hW,rfl,hkl,rfl,rfl,abn,hbW,MH,Ah⟩:=hrel
  subst hW
  have Ai:=zH hbW
  have ib:=zH MH
  have HOW:=zH Ah
  have hlb:b < W.heap.size:=(Array.getElem?_eq_some_iff.1 hbW).1
  clear hbW MH Ah
  by_cases hlt:k < l
  ·have t1:(k:Int) <(l:Int):=by omega
   have hk1:=ib.out.2 k (by omega)
   have hl1:=ib.out.2 l (by omega)
   obtain⟨x,hx⟩:∃x,swp n t k k=x:=⟨_,rfl⟩
   obtain⟨y,hy⟩:∃y,swp n t k l=y:=⟨_,rfl⟩
   rw [hx] at hk1
   rw [hy] at hl1
   obtain⟨xo,xs,xa,xm,xc⟩:=x
   obtain⟨yo,ys,ya,ym,yc⟩:=y
   have HX:=zH hx
   have HY:=zH hy
   clear hx hy
   have e0:=(cell_of_row _ _ _ _ _ _ Ai.out).trans hk1.1
   have e1:=(cell_of_row _ _ _ _ _ _ Ai.out).trans hk1.2.1
   have e2:=(cell_of_row _ _ _ _ _ _ Ai.out).trans hk1.2.2
   have f0:=(cell_of_row _ _ _ _ _ _ Ai.out).trans hl1.1
   have f1:=(cell_of_row _ _ _ _ _ _ Ai.out).trans hl1.2.1
   have f2:=(cell_of_row _ _ _ _ _ _ Ai.out).trans hl1.2.2
   simp only at e0 e1 e2 f0 f1 f2
   have kn:(k:Int) <(n:Int):=by omega
   have ln:(l:Int) <(n:Int):=by omega
   have z0:=ak Ai.out (k*3)
   have z1:=ak Ai.out (k*3+1)
   have z2:=ak Ai.out (k*3+2)
   have z3:=ak Ai.out (l*3)
   have z4:=ak Ai.out (l*3+1)
   have z5:=ak Ai.out (l*3+2)
   clear hk1 hl1
   go_wp2_with fail
   go_region
   go_wp2_with fail
   go_roundg (n -(k+1))
   case measure=>omega
   case rel=>exact⟨k+1,l - 1,_,_,rfl,rfl,by omega,by go_num,by rw [show ((l - 1:Nat):Int)=(l:Int) - 1 by omega],by omega,Gv Ai.out (k*3) (l*3) (yw ⟨yo,ys,ya,ym,yc⟩) (yw ⟨xo,xs,xa,xm,xc⟩),ib.out.swap hkl hlt HX.out HY.out,Gw HOW.out (k*3) (l*3) (yw ⟨yo,ys,ya,ym,yc⟩) (yw ⟨xo,xs,xa,xm,xc⟩)⟩
  ·have t2:decide ((k:Int) <(l:Int))=false:=decide_eq_false (by omega)
   go_wp2_with fail
   go_end0
   refine⟨rfl,⟨cs',Ai.out,ib.out.congr (fun j hj=>?_)⟩,HOW.out⟩
   unfold swp
   by_cases e:j < k∨n≤j+k
   ·rw [if_pos e]
   ·rw [if_neg e,show n - 1 - j=j by omega]
end Go.Proofs.YtdlabakleldgaaaGreatDoor
