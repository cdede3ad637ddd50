/- Prt0 Prt1 -/
import Derived.Test.YtdlabakleldgaaaGreatDoorZ04
import Derived.Test.YtdlabakleldgaaaGreatDoorZ05
import Derived.Test.YtdlabakleldgaaaGreatDoorZ09
import Derived.Maps.AppendAt
set_option linter.unusedVariables false
set_option linter.unusedSimpArgs false
set_option maxRecDepth 100000
set_option maxHeartbeats 8000000
namespace Go.Proofs.YtdlabakleldgaaaGreatDoor
open Go.RowKit Go.Maps
open Rl (Ex)
mutual
def Te (w:World) (F:Nat→Prop):Ex→Value→Prop
 | .mk op set kids,v=>∃ (a:Option Addr) (cap:Nat),v=.agg #[.int .u8 op,.int .u32 set,.slice a kids.length cap]∧kids.length≤cap∧kids.length≤maxLen∧0≤set∧set < 4294967296 ∧
   (kids≠[]→∃b off,a=some ⟨b,off,none⟩∧F b∧cZ w F kids b off)
def cZ (w:World) (F:Nat→Prop):List Ex→Nat→Nat→Prop
 | [],_,_=>True
 | e::es,b,off=>(∃o s k,w.cell? ⟨b,off,none⟩=some o∧w.cell? ⟨b,off+1,none⟩=some s∧w.cell? ⟨b,off+2,none⟩=some k∧Te w F e (.agg #[o,s,k]))∧cZ w F es b (off+3)
end
def Kp (w w':World) (F:Nat→Prop):Prop:=∀b,F b→∀o v,w.cell? ⟨b,o,none⟩=some v→w'.cell? ⟨b,o,none⟩=some v
theorem Kp.only {w w':World} {F P:Nat→Prop} (h:Only P w w') (hn:∀b,F b→¬ P b):Kp w w' F:=fun b hb o v hv=>by
 have hl:=World.block_lt_of_cell? w _ hv
 exact (World.cell?_of_block (a:=⟨b,o,none⟩) (h.block b hl (hn b hb))).trans hv
mutual
theorem Te.keep {w w':World} {F F':Nat→Prop} (hk:Kp w w' F) (hF:∀b,F b→F' b):∀(e:Ex) (v:Value),Te w F e v→Te w' F' e v
 | .mk op set kids,v,h=>by
  unfold Te at h ⊢
  obtain⟨a,cap,h1,h2,h3,h4,h5,h6⟩:=h
  refine⟨a,cap,h1,h2,h3,h4,h5,fun hn=>?_⟩
  obtain⟨b,off,g1,g2,g3⟩:=h6 hn
  exact⟨b,off,g1,hF b g2,cZ.keep hk hF kids b off g2 g3⟩
theorem cZ.keep {w w':World} {F F':Nat→Prop} (hk:Kp w w' F) (hF:∀b,F b→F' b):∀(es:List Ex) (b off:Nat),F b→cZ w F es b off→cZ w' F' es b off
 | [],_,_,_,_=>by unfold cZ;trivial
 | e::es,b,off,hb,h=>by
  unfold cZ at h ⊢
  obtain⟨⟨o,s,k,h0,h1,h2,h3⟩,h4⟩:=h
  exact⟨⟨o,s,k,hk b hb _ _ h0,hk b hb _ _ h1,hk b hb _ _ h2,Te.keep hk hF e _ h3⟩,cZ.keep hk hF es b (off+3) hb h4⟩
end
def Lf (w:World) (F:Nat→Prop) (es:List Ex) (a:Option Addr) (c:Nat):Prop:=es.length≤c∧es.length≤maxLen∧(es≠[]→∃b off,a=some ⟨b,off,none⟩∧F b∧cZ w F es b off)
theorem Lf.keep {w w':World} {F F':Nat→Prop} {es:List Ex} {a:Option Addr} {c:Nat} (h:Lf w F es a c) (hk:Kp w w' F) (hF:∀b,F b→F' b):Lf w' F' es a c:=by
 obtain⟨h1,h2,h3⟩:=h
 refine⟨h1,h2,fun hn=>?_⟩
 obtain⟨b,off,g1,g2,g3⟩:=h3 hn
 exact⟨b,off,g1,hF b g2,cZ.keep hk hF es b off g2 g3⟩
theorem Lf.nil (w:World) (F:Nat→Prop) (a:Option Addr) (c:Nat):Lf w F [] a c:=⟨Nat.zero_le _,Nat.zero_le _,fun h=>absurd rfl h⟩
theorem Lf.one {w:World} {F:Nat→Prop} {es:List Ex} {a:Option Addr} {c:Nat} (h:Lf w F es a c):Lf w F (es.take 1) a c:=by
 obtain⟨h1,h2,h3⟩:=h
 refine⟨by rw [List.length_take];omega,by rw [List.length_take];omega,fun hn=>?_⟩
 cases es with
 | nil=>exact absurd rfl hn
 | cons e es=>
  obtain⟨b,off,g1,g2,g3⟩:=h3 (by simp)
  refine⟨b,off,g1,g2,?_⟩
  unfold cZ at g3
  simp only [List.take_succ_cons,List.take_zero]
  unfold cZ
  exact⟨g3.1,by unfold cZ;trivial⟩
theorem Te.kids {w:World} {F:Nat→Prop} {op set:Int} {kids:List Ex} {v:Value} (h:Te w F (.mk op set kids) v):∃a cap,v=.agg #[.int .u8 op,.int .u32 set,.slice a kids.length cap]∧0≤set∧set < 4294967296∧Lf w F kids a cap:=by
 unfold Te at h
 obtain⟨a,cap,h1,h2,h3,h4,h5,h6⟩:=h
 exact⟨a,cap,h1,h4,h5,h2,h3,h6⟩
def Jl (cl:Nat) (p:Au.Pl):Nat→Nat:=fun c=>if c < cl then Au.by' p c else 0
theorem Ng (p:Au.Pl) (s:Int) (c:Nat):Au.by' { p with sets:=p.sets++[s]} c=if s / 2 ^ c % 2=1 then Au.by' p c ||| 2 ^ p.sets.length else Au.by' p c:=by
 unfold Au.by'
 simp only [List.length_append,List.length_singleton,List.range_succ,List.foldl_append,List.foldl_cons,List.foldl_nil]
 have hf:∀(l:List Nat) (m:Nat),(∀i∈l,i < p.sets.length)→l.foldl (fun m i=>if ((p.sets++[s])[i]?.getD 0) / 2 ^ c % 2=1 then m ||| 2 ^ i else m) m=l.foldl (fun m i=>if (p.sets[i]?.getD 0) / 2 ^ c % 2=1 then m ||| 2 ^ i else m) m:=by
  intro l
  induction l with
  | nil=>intro m _;rfl
  | cons a l ih=>
   intro m h
   simp only [List.foldl_cons]
   rw [List.getElem?_append_left (h a (by simp)),ih _ (fun i hi=>h i (by simp [hi]))]
 rw [hf _ _ (fun i hi=>List.mem_range.1 hi)]
 simp
theorem Jm (cl:Nat) (p:Au.Pl) (s:Int):Ea (Jl cl p) s p.sets.length cl=Jl cl { p with sets:=p.sets++[s]}:=funext fun c=>by
 unfold Ea Jl
 by_cases hc:c < cl
 ·rw [if_pos hc,if_pos hc,Ng]
  by_cases h:s / 2 ^ c % 2=1
  ·rw [if_pos ⟨hc,h⟩,if_pos h]
  ·rw [if_neg (fun h2=>h h2.2),if_neg h]
 ·rw [if_neg hc,if_neg hc,if_neg (fun h=>hc h.1)]
def mV (w:World) (g cl:Nat) (p:Au.Pl) (fs:Nat) (vL:Value) (em:Nat):Prop:=dN w g cl p.sets.length (Jl cl p) p.next fs vL em
theorem Ep (p:Au.Pl) (A N:Nat) (hA:A < 2 ^ p.sets.length):qA p.next A N p.sets.length=(Au.chain p A N).next:=funext fun i=>by
 show (if i < p.sets.length∧A.testBit i=true then p.next i ||| N else p.next i)=if A.testBit i=true then p.next i ||| N else p.next i
 by_cases h:A.testBit i=true
 ·have:i < p.sets.length:=by
   apply Classical.byContradiction
   intro hn
   rw [Nat.testBit_lt_two_pow (Nat.lt_of_lt_of_le hA (Nat.pow_le_pow_right (by decide) (by omega)))] at h
   cases h
  rw [if_pos ⟨this,h⟩,if_pos h]
 ·rw [if_neg (fun h2=>h h2.2),if_neg h]
theorem Jn {n x:Nat} (hn:n≤200) (h:x < 2 ^ n):x < 2 ^ 256:=Nat.lt_of_lt_of_le h (Nat.pow_le_pow_right (by decide) (by omega))
def YI (w:World) (F:Nat→Prop) (g cl:Nat) (fs:Nat) (vL:Value) (em:Nat) (R:Option (Au.Fr × Au.Pl)) (e:Ending) (w':World):Prop:=
 match R with
 | none=>e=.returned (.tuple #[.agg (zF 0),.bool false])∧Only (·=g) w w'
 | some (f,p1)=>(∃a c,e=.returned (.tuple #[qK f.op a f.left.length c f.nd,.bool true])∧Lf w F f.left a c)∧mV w' g cl p1 fs vL em∧Only (·=g) w w'
theorem qP (F:Nat→Prop) (g cl:Nat) (p:Au.Pl) (fs:Nat) (vL:Value) (em:Nat) (k:Ex) (v:Value) (w:World) (hP:mV w g cl p fs vL em) (hp:p.sets.length≤200) (hcl:cl≤24) (hk:Te w F k v):
  Calls Tryz.prog 101 #[.pointer (some ⟨g,0,none⟩),v] w (YI w F g cl fs vL em (Au.begin' k p)):=by
 obtain⟨op,set,kids⟩:=k
 obtain⟨a,cap,rfl,hs0,hs1,hL⟩:=hk.kids
 obtain⟨hl1,hl2,hl3⟩:=hL
 have Uc:∀w',Only (fun _=>False) w w'→mV w' g cl p fs vL em∧Only (·=g) w w':=fun w' h=>⟨dN.only hP h (fun h=>h),h.mono (fun _ h=>h.elim)⟩
 have ha:0 < kids.length→∃b off,a=some ⟨b,off,none⟩:=fun h=>by
  obtain⟨b,off,h1,_⟩:=hl3 (List.length_pos_iff.1 h)
  exact⟨b,off,h1⟩
 unfold Au.begin'
 dsimp only
 by_cases o1:op=1
 ·subst o1
  rw [if_pos rfl]
  by_cases hf:p.sets.length=200
  ·rw [if_pos hf]
   unfold mV at hP
   rw [hf] at hP
   refine (Cb g cl _ _ fs vL em set a _ cap w hP).mono ?_
   rintro e w' ⟨rfl,ho⟩
   exact⟨rfl,ho.mono (fun _ h=>h.elim)⟩
  ·rw [if_neg hf]
   refine (QP g cl _ _ _ fs vL em set a _ cap w hP (by omega) hcl hs0 hs1).mono ?_
   rintro e w' ⟨rfl,hp',ho⟩
   refine⟨⟨none,0,rfl,Lf.nil _ _ _ _⟩,?_,ho⟩
   unfold mV
   rw [Jm] at hp'
   have e:(p.sets++[set]).length=p.sets.length+1:=by simp
   show dN w' g cl (p.sets++[set]).length _ _ fs vL em
   rw [e]
   exact hp'
 rw [if_neg o1]
 by_cases o2:op=2
 ·subst o2
  rw [if_pos rfl]
  refine (QI g set a _ cap w).mono ?_
  rintro e w' ⟨rfl,ho⟩
  exact⟨⟨a,cap,rfl,hl1,hl2,hl3⟩,Uc w' ho⟩
 rw [if_neg o2]
 by_cases o3:op=3
 ·subst o3
  rw [if_pos rfl]
  refine (QJ g set a _ cap w).mono ?_
  rintro e w' ⟨rfl,ho⟩
  exact⟨⟨a,cap,rfl,hl1,hl2,hl3⟩,Uc w' ho⟩
 rw [if_neg o3]
 have h1:min 1 kids.length=(kids.take 1).length:=by rw [List.length_take]
 by_cases o4:op=4
 ·subst o4
  rw [if_pos rfl]
  refine (QL g set a _ cap w hl1 hl2 ha).mono ?_
  rintro e w' ⟨rfl,ho⟩
  exact⟨⟨a,cap,by rw [h1],Lf.one ⟨hl1,hl2,hl3⟩⟩,Uc w' ho⟩
 rw [if_neg o4]
 by_cases o5:op=5
 ·subst o5
  rw [if_pos rfl]
  refine (QM g set a _ cap w hl1 hl2 ha).mono ?_
  rintro e w' ⟨rfl,ho⟩
  exact⟨⟨a,cap,by rw [h1],Lf.one ⟨hl1,hl2,hl3⟩⟩,Uc w' ho⟩
 rw [if_neg o5]
 by_cases o6:op=6
 ·subst o6
  rw [if_pos rfl]
  refine (QN g set a _ cap w hl1 hl2 ha).mono ?_
  rintro e w' ⟨rfl,ho⟩
  exact⟨⟨a,cap,by rw [h1],Lf.one ⟨hl1,hl2,hl3⟩⟩,Uc w' ho⟩
 rw [if_neg o6]
 refine (QK g op set a _ cap w (by omega)).mono ?_
 rintro e w' ⟨rfl,ho⟩
 exact⟨⟨none,0,rfl,Lf.nil _ _ _ _⟩,Uc w' ho⟩
theorem Nh (g cl:Nat) (p:Au.Pl) (fs:Nat) (vL:Value) (em:Nat) (op:Int) (l:List Ex) (a:Option Addr) (m c:Nat) (x:Au.Nd) (w:World) (hP:mV w g cl p fs vL em) (hn:p.sets.length≤200) (hx:Au.mF p x):
  Calls Tryz.prog 102 #[.pointer (some ⟨g,0,none⟩),qK op a m c x] w fun e w'=>e=.returned (qJ x)∧mV w' g cl (Au.fin ⟨op,l,x⟩ p) fs vL em∧Only (·=g) w w':=by
 unfold Au.fin
 by_cases h:op=4∨op=5
 ·rw [if_pos h]
  refine (IZ g cl _ _ _ fs vL em op a m c x w hP hn (Jn hn hx.1) h).mono ?_
  rintro e w' ⟨rfl,hp,ho⟩
  refine⟨rfl,?_,ho⟩
  rw [Ep _ _ _ hx.2] at hp
  exact hp
 ·rw [if_neg h]
  refine (FM g op a m c x w (fun h1=>h (Or.inl h1)) (fun h1=>h (Or.inr h1))).mono ?_
  rintro e w' ⟨rfl,ho⟩
  exact⟨rfl,dN.only hP ho (fun h=>h),ho.mono (fun _ h=>h.elim)⟩
theorem Nj (g cl:Nat) (p:Au.Pl) (fs:Nat) (vL:Value) (em:Nat) (fb fo:Nat) (t:TypeId) (cs:Array Value) (op:Int) (a:Option Addr) (m c:Nat) (y x:Au.Nd) (w:World) (hP:mV w g cl p fs vL em) (hn:p.sets.length≤200) (hx:Au.mF p x) (hy:Au.mF p y) (hF:Fb w fb fo t cs op a m c y) (hgf:fb≠g):
  Calls Tryz.prog 103 #[.pointer (some ⟨g,0,none⟩),.pointer (some ⟨fb,fo,none⟩),qJ x] w fun e w'=>e=.returned (.tuple #[])∧(∃cs',Fb w' fb fo t cs' op a m c (Au.zJ op y x)∧Same cs cs' fo)∧mV w' g cl (Au.wE op y x p) fs vL em∧Only (fun h=>h=fb∨h=g) w w':=by
 unfold Au.zJ Au.wE
 by_cases h:op=2
 ·subst h
  rw [if_pos rfl,if_pos rfl]
  refine (I6 g cl _ _ _ fs vL em fb fo t cs a m c y x w hP hn (Jn hn hx.1) hF hgf).mono ?_
  rintro e w' ⟨rfl,hf,hp,ho⟩
  refine⟨rfl,hf,?_,ho⟩
  rw [Ep _ _ _ hy.2] at hp
  exact hp
 ·rw [if_neg h,if_neg h]
  refine (I4 g fb fo t cs op a m c y x w hF h).mono ?_
  rintro e w' ⟨rfl,hf,ho⟩
  exact⟨rfl,hf,dN.only hP ho (by intro h;exact hgf h.symm),ho.mono (fun _ h=>Or.inl h)⟩
structure Fm where
 f:Au.Fr
 a:Option Addr
 c:Nat
def PE (m:Fm):Array Value:=iR m.f.op m.a m.f.left.length m.c m.f.nd
def flat:List Fm→List Value
 | []=>[]
 | m::L=>(PE m).toList++flat L
theorem pE (m:Fm):(PE m).size=11:=rfl
theorem uk:∀(L:List Fm),(flat L).length=L.length*11
 | []=>rfl
 | m::L=>by
  rw [flat,List.length_append,uk L,Array.length_toList,pE,List.length_cons]
  omega
theorem wO:∀(L:List Fm) (m:Fm),flat (L++[m])=flat L++(PE m).toList
 | [],m=>by simp [flat]
 | x::L,m=>by rw [List.cons_append,flat,wO L m,flat,List.append_assoc]
theorem xY:∀(L:List Fm) (i k:Nat) (m:Fm),L[i]?=some m→k < 11→(flat L)[11*i+k]?=(PE m)[k]?
 | x::L,0,k,m,h,hk=>by
  injection h with h
  subst h
  rw [flat,Nat.mul_zero,Nat.zero_add,List.getElem?_append_left (by rw [Array.length_toList,pE];exact hk),Array.getElem?_toList]
 | x::L,i+1,k,m,h,hk=>by
  rw [flat,List.getElem?_append_right (by rw [Array.length_toList,pE];omega),Array.length_toList,pE,show 11*(i+1)+k - 11=11*i+k by omega]
  exact xY L i k m (by simpa using h) hk
def pF (w:World) (base ob cap:Nat) (cur:Array Value) (L:List Fm):Prop:=base≤ob∧w.heap[ob]?=some (.cells cur 171 (0,0))∧L.length≤cap∧cap≤maxLen∧cur.size=cap*11∧∀i m,L[i]?=some m→gG cur (11*i) m.f.op m.a m.f.left.length m.c m.f.nd
theorem pF.row {w:World} {base ob cap:Nat} {cur:Array Value} {L:List Fm} (h:pF w base ob cap cur L):w.ownsRow base 171 11 (.slice (some ⟨ob,0,none⟩) L.length cap) L.length (flat L):=by
 obtain⟨h1,h2,h3,h4,h5,h6⟩:=h
 refine⟨uk L,Or.inr ⟨ob,cap,cur,rfl,h1,h2,h3,h4,h5,?_⟩⟩
 apply List.ext_getElem?
 intro j
 rw [List.getElem?_take]
 by_cases hj:j < L.length*11
 ·rw [if_pos hj]
  have hi:j / 11 < L.length:=by omega
  have e:j=11*(j / 11)+j % 11:=by omega
  have hm:L[j / 11]?=some L[j / 11]:=List.getElem?_eq_getElem hi
  rw [e,xY L _ _ _ hm (by omega),Array.getElem?_toList]
  exact h6 _ _ hm (j % 11) (by omega)
 ·rw [if_neg hj,List.getElem?_eq_none (by rw [uk];omega)]
theorem pF.Q5 {w:World} {base:Nat} {v:Value} {L:List Fm} (h:w.ownsRow base 171 11 v L.length (flat L)) (hL:0 < L.length):∃ob cap cur,v=.slice (some ⟨ob,0,none⟩) L.length cap∧pF w base ob cap cur L:=by
 obtain⟨_,⟨_,h0⟩ | ⟨g,cap,cur,rfl,h1,h2,h3,h4,h5,h6⟩⟩:=h
 ·omega
 ·refine⟨g,cap,cur,rfl,h1,h2,h3,h4,h5,fun i m hm k hk=>?_⟩
  have hi:=(List.getElem?_eq_some_iff.1 hm).1
  have:(cur.toList.take (L.length*11))[11*i+k]?=(PE m)[k]?:=by rw [h6];exact xY L i k m hm hk
  rw [List.getElem?_take,if_pos (by omega),Array.getElem?_toList] at this
  exact this
theorem pF.lt {w:World} {base ob cap:Nat} {cur:Array Value} {L:List Fm} (h:pF w base ob cap cur L):ob < w.heap.size:=(Array.getElem?_eq_some_iff.1 h.2.1).1
theorem pF.only {w w':World} {base ob cap:Nat} {cur:Array Value} {L:List Fm} {P:Nat→Prop} (h:pF w base ob cap cur L) (ho:Only P w w') (hn:¬ P ob):pF w' base ob cap cur L:=⟨h.1,(ho.block ob h.lt hn).trans h.2.1,h.2.2⟩
theorem pF.fb {w:World} {base ob cap:Nat} {cur:Array Value} {L:List Fm} (h:pF w base ob cap cur L) {i:Nat} {m:Fm} (hm:L[i]?=some m):Fb w ob (11*i) 171 cur m.f.op m.a m.f.left.length m.c m.f.nd:=⟨h.2.1,h.2.2.2.2.2 i m hm⟩
theorem pF.set {w w':World} {base ob cap:Nat} {cur cur':Array Value} {L:List Fm} {m m':Fm} (h:pF w base ob cap cur (L++[m])) (hb:w'.heap[ob]?=some (.cells cur' 171 (0,0))) (hf:gG cur' (11*L.length) m'.f.op m'.a m'.f.left.length m'.c m'.f.nd) (hs:Same cur cur' (11*L.length)):pF w' base ob cap cur' (L++[m']):=by
 obtain⟨h1,h2,h3,h4,h5,h6⟩:=h
 refine⟨h1,hb,by simpa using h3,h4,by rw [hs.1,h5],fun i x hx=>?_⟩
 by_cases hi:i < L.length
 ·rw [List.getElem?_append_left hi] at hx
  have:=h6 i x (by rw [List.getElem?_append_left hi];exact hx)
  intro k hk
  rw [hs.2 (11*i+k) (by omega)]
  exact this k hk
 ·have hl:=(List.getElem?_eq_some_iff.1 hx).1
  simp only [List.length_append,List.length_singleton] at hl
  obtain rfl:i=L.length:=by omega
  rw [List.getElem?_append_right (Nat.le_refl _),Nat.sub_self] at hx
  injection hx with hx
  subst hx
  exact hf
theorem pF.pop {w:World} {base ob cap:Nat} {cur:Array Value} {L:List Fm} {m:Fm} (h:pF w base ob cap cur (L++[m])):pF w base ob cap cur L:=by
 obtain⟨h1,h2,h3,h4,h5,h6⟩:=h
 refine⟨h1,h2,by simp at h3;omega,h4,h5,fun i x hx=>h6 i x ?_⟩
 rw [List.getElem?_append_left (List.getElem?_eq_some_iff.1 hx).1]
 exact hx
theorem wP:∀(l:List Value) (k:Nat) (cs:Array Value),k+l.length≤cs.size→∀i,((l.zipIdx k).foldl (fun cs p=>cs.setIfInBounds (0+p.2) p.1) cs)[i]?=if k≤i∧i < k+l.length then l[i - k]? else cs[i]?
 | [],k,cs,h,i=>by simp;omega
 | x::l,k,cs,h,i=>by
  rw [List.zipIdx_cons,List.foldl_cons,wP l (k+1) _ (by simp at h ⊢;omega) i]
  simp only [List.length_cons] at h ⊢
  by_cases h1:k+1≤i∧i < k+1+l.length
  ·rw [if_pos h1,if_pos (by omega),show i - k=(i -(k+1))+1 by omega,List.getElem?_cons_succ]
  ·rw [if_neg h1,Array.getElem?_setIfInBounds]
   by_cases h2:k=i
   ·subst h2
    simp
    omega
   ·rw [if_neg (by omega),if_neg (by omega)]
theorem um {a:Act} {z X:Array Value} {s n:Nat} (hs:s=n) (hX:X.size=n) (hz:z.size=n) (hn:0 < n) {x:Operand} (hx:a.eval x=.agg X:=by rfl):
  Instr.fill (fun i=>some (i*s,s)) ((Array.range (1*s)).map ((Value.agg z).cells[· %(Value.agg z).cells.size]!)) (#[(0,x)].map fun p=>(p.1,a.eval p.2)).toList=some X:=by
 subst hs
 have e:(#[(0,x)].map fun p:Nat × Operand=>(p.1,a.eval p.2)).toList=[(0,.agg X)]:=by simp [hx]
 rw [e]
 unfold Instr.fill
 simp only
 rw [if_neg (by show ¬((decide (X.size≠s) || decide (0*s+X.size > _))=true);rw [hX];simp)]
 unfold Instr.fill
 congr 1
 apply Array.ext_getElem?
 intro i
 have:=wP X.toList 0 ((Array.range (1*s)).map ((Value.agg z).cells[· %(Value.agg z).cells.size]!)) (by rw [Array.length_toList,hX];simp) i
 rw [Array.length_toList,hX] at this
 show (Array.foldl _ _ X.zipIdx)[i]?=_
 rw [←Array.foldl_toList,Array.toList_zipIdx]
 simp only [Nat.zero_mul]
 refine this.trans ?_
 by_cases hi:i < s
 ·rw [if_pos (by omega)]
  simp
 ·rw [if_neg (by omega),Array.getElem?_eq_none (by simp;omega),Array.getElem?_eq_none (by rw [hX];omega)]
theorem Nl:(Tryz.prog.info? 171).map (fun i=>(i.zero,i.size,i.bytes))=some (some (.agg #[.int .u8 0,.slice none 0 0,.bool false,.int .u64 0,.int .u64 0,.int .u64 0,.int .u64 0,.int .u64 0,.int .u64 0,.int .u64 0,.int .u64 0]),11,104):=by kernel_rfl
theorem pF.push {w w':World} {base ob cap:Nat} {cur:Array Value} {L:List Fm} {m:Fm} {v:Value} (h:w'.ownsRow base 171 11 v (L.length+1) (flat L++(PE m).toList)):∃ob cap cur,v=.slice (some ⟨ob,0,none⟩) (L.length+1) cap∧pF w' base ob cap cur (L++[m]):=by
 rw [←wO] at h
 have e:(L++[m]).length=L.length+1:=by simp
 rw [←e] at h ⊢
 exact pF.Q5 h (by omega)
end Go.Proofs.YtdlabakleldgaaaGreatDoor
