/- Sts1 Rn Sts2a -/
import Derived.Test.YtdlabakleldgaaaGreatDoorZ15
import Derived.Test.YtdlabakleldgaaaGreatDoorZ00
import Derived.Test.YtdlabakleldgaaaGreatDoorZ09
import Derived.Maps.AppendAt
import Derived.Deep.CutRange
set_option linter.unusedVariables false
set_option linter.unusedSimpArgs false
set_option maxRecDepth 100000
set_option maxHeartbeats 8000000
namespace Go.Proofs.YtdlabakleldgaaaGreatDoor
open Go.RowKit Go.Maps
theorem mI.next {w W W2:World} {g cl:Nat} {p:Au.Pl} {fs:Nat} {vL:Value} {em:Nat} {Ls found:List Nat} {fv v':Value} {rows:List (Nat × List Nat)} {o:List Nat} {vN vO:Value} (h:mI w W g cl p fs vL em Ls found fv rows o vN vO) {r:Nat × List Nat} (hr:w.heap.size+1+1+1≤r.1∧W.heap[r.1]?=some (.cells (Ez r.2 cl) 3 (0,0))∧r.2.length=cl)
  (hf:W2.ownsRow (w.heap.size+1+1+1) 28 1 v' (rows.length+1) (rows.map (JN cl)++[JN cl r])) (ho2:Only (fun q=>vN.ownBlock=some q) W W2):mI w (W2.setCell ⟨w.heap.size+1,0,none⟩ v') g cl p fs vL em Ls found fv (rows++[r]) o v' vO:=by
 obtain⟨a1,a2,a3,⟨D,a4,a5⟩,a6,a7,a8,a9,EB,JP,a12⟩:=h
 have hfl:∀q,vN.ownBlock=some q→w.heap.size+1+1+1≤q:=fun q hq=>(a9.lt q hq).1
 have hlow:∀b,b < w.heap.size+1+1+1→¬ vN.ownBlock=some b:=fun b hb hp=>by have:=hfl b hp;omega
 have hS:Only (·=w.heap.size+1) W2 (W2.setCell ⟨w.heap.size+1,0,none⟩ v'):=Only.setCell (S:=(·=w.heap.size+1)) (Only.refl _ _) (p:=⟨w.heap.size+1,0,none⟩) rfl v'
 have hO:Only (fun q=>q=w.heap.size+1∨vN.ownBlock=some q) W (W2.setCell ⟨w.heap.size+1,0,none⟩ v'):=(ho2.mono (fun _ h=>Or.inr h)).trans (hS.mono (fun _ h=>Or.inl h))
 have hn:∀b,b < w.heap.size+1+1+1→b≠w.heap.size+1→¬(b=w.heap.size+1∨vN.ownBlock=some b):=fun b hb hne e=>e.elim hne (hlow b hb)
 refine⟨a1.only hO (hn _ (by omega) (by omega)),a2,a3.only hO (fun b hb=>hn b (by omega) (by omega)),⟨D,fQ a4 hO (hn _ (by omega) (by omega)),a5⟩,bq a6 hO ?_,?_,?_,?_,?_,?_,a12.trans (hO.mono ?_)⟩
 ·have H:∀q,fv.ownBlock=some q→¬ vN.ownBlock=some q:=by
   intro q hq e
   obtain⟨_,⟨hv,_⟩ | ⟨g',cap,cur,hv,_,hh,_⟩⟩:=a6
   ·rw [hv] at hq;cases hq
   ·rw [hv] at hq
    injection hq with hq
    simp only at hq
    subst hq
    exact own_ne a9 hh (by decide) e
  intro q hq e
  rcases e with e | e
  ·have:=(a6.lt q hq).1;omega
  ·exact H q hq e
 ·exact (hO.block _ (Array.getElem?_eq_some_iff.1 a7).1 (hn _ (by omega) (by omega))).trans a7
 ·exact aa ((ho2.block _ (Array.getElem?_eq_some_iff.1 a8).1 (hlow _ (by omega))).trans a8) v'
 ·have e:(rows++[r]).length=rows.length+1:=by simp
  rw [e,List.map_append]
  exact bq hf hS (fun q hq e=>by have:=(hf.lt q hq).1;omega)
 ·have H:∀q,vO.ownBlock=some q→¬ vN.ownBlock=some q:=by
   intro q hq e
   obtain⟨_,⟨hv,_⟩ | ⟨g',cap,cur,hv,_,hh,_⟩⟩:=EB
   ·rw [hv] at hq;cases hq
   ·rw [hv] at hq
    injection hq with hq
    simp only at hq
    subst hq
    exact own_ne a9 hh (by decide) e
  refine bq EB hO ?_
  intro q hq e
  rcases e with e | e
  ·have:=(EB.lt q hq).1;omega
  ·exact H q hq e
 ·intro r' hr'
  have hX:w.heap.size+1+1+1≤r'.1∧W.heap[r'.1]?=some (.cells (Ez r'.2 cl) 3 (0,0))∧r'.2.length=cl:=by
   rcases List.mem_append.1 hr' with h1 | h1
   ·exact JP r' h1
   ·simp at h1
    subst h1
    exact hr
  obtain⟨b1,b2,b3⟩:=hX
  refine⟨b1,(hO.block _ (Array.getElem?_eq_some_iff.1 b2).1 ?_).trans b2,b3⟩
  intro e;rcases e with e | e
  ·omega
  ·exact own_ne a9 b2 (by decide) e
 ·intro b hb
  rcases hb with e | e
  ·omega
  ·have:=hfl b e;omega
theorem mI.tell {w W W2:World} {g cl:Nat} {p:Au.Pl} {fs:Nat} {vL:Value} {em:Nat} {Ls found:List Nat} {fv v':Value} {rows:List (Nat × List Nat)} {o:List Nat} {vN vO:Value} (h:mI w W g cl p fs vL em Ls found fv rows o vN vO) {x:Nat}
  (hf:W2.ownsRow (w.heap.size+1+1+1) 32 1 v' (o.length+1) (o.map jw++[jw x])) (ho2:Only (fun q=>vO.ownBlock=some q) W W2):mI w (W2.setCell ⟨w.heap.size+1,1,none⟩ v') g cl p fs vL em Ls found fv rows (o++[x]) vN v':=by
 obtain⟨a1,a2,a3,⟨D,a4,a5⟩,a6,a7,a8,a9,EB,JP,a12⟩:=h
 have hfl:∀q,vO.ownBlock=some q→w.heap.size+1+1+1≤q:=fun q hq=>(EB.lt q hq).1
 have hlow:∀b,b < w.heap.size+1+1+1→¬ vO.ownBlock=some b:=fun b hb hp=>by have:=hfl b hp;omega
 have hS:Only (·=w.heap.size+1) W2 (W2.setCell ⟨w.heap.size+1,1,none⟩ v'):=Only.setCell (S:=(·=w.heap.size+1)) (Only.refl _ _) (p:=⟨w.heap.size+1,1,none⟩) rfl v'
 have hO:Only (fun q=>q=w.heap.size+1∨vO.ownBlock=some q) W (W2.setCell ⟨w.heap.size+1,1,none⟩ v'):=(ho2.mono (fun _ h=>Or.inr h)).trans (hS.mono (fun _ h=>Or.inl h))
 have hn:∀b,b < w.heap.size+1+1+1→b≠w.heap.size+1→¬(b=w.heap.size+1∨vO.ownBlock=some b):=fun b hb hne e=>e.elim hne (hlow b hb)
 refine⟨a1.only hO (hn _ (by omega) (by omega)),a2,a3.only hO (fun b hb=>hn b (by omega) (by omega)),⟨D,fQ a4 hO (hn _ (by omega) (by omega)),a5⟩,bq a6 hO ?_,?_,?_,?_,?_,?_,a12.trans (hO.mono ?_)⟩
 ·have H:∀q,fv.ownBlock=some q→¬ vO.ownBlock=some q:=by
   intro q hq e
   obtain⟨_,⟨hv,_⟩ | ⟨g',cap,cur,hv,_,hh,_⟩⟩:=a6
   ·rw [hv] at hq;cases hq
   ·rw [hv] at hq
    injection hq with hq
    simp only at hq
    subst hq
    exact own_ne EB hh (by decide) e
  intro q hq e
  rcases e with e | e
  ·have:=(a6.lt q hq).1;omega
  ·exact H q hq e
 ·exact (hO.block _ (Array.getElem?_eq_some_iff.1 a7).1 (hn _ (by omega) (by omega))).trans a7
 ·exact aa ((ho2.block _ (Array.getElem?_eq_some_iff.1 a8).1 (hlow _ (by omega))).trans a8) v'
 ·have H:∀q,vN.ownBlock=some q→¬ vO.ownBlock=some q:=by
   intro q hq e
   obtain⟨_,⟨hv,_⟩ | ⟨g',cap,cur,hv,_,hh,_⟩⟩:=a9
   ·rw [hv] at hq;cases hq
   ·rw [hv] at hq
    injection hq with hq
    simp only at hq
    subst hq
    exact own_ne EB hh (by decide) e
  refine bq a9 hO ?_
  intro q hq e
  rcases e with e | e
  ·have:=(a9.lt q hq).1;omega
  ·exact H q hq e
 ·have e:(o++[x]).length=o.length+1:=by simp
  rw [e,List.map_append]
  exact bq hf hS (fun q hq e=>by have:=(hf.lt q hq).1;omega)
 ·intro r' hr'
  obtain⟨b1,b2,b3⟩:=JP r' hr'
  refine⟨b1,(hO.block _ (Array.getElem?_eq_some_iff.1 b2).1 ?_).trans b2,b3⟩
  intro e;rcases e with e | e
  ·omega
  ·exact own_ne EB b2 (by decide) e
 ·intro b hb
  rcases hb with e | e
  ·omega
  ·have:=hfl b e;omega
theorem dZ (P:Nat→Prop) [DecidablePred P] (m0 r:Nat):∀k,((List.range k).foldl (fun m i=>if P i then m ||| 2 ^ i else m) m0).testBit r=(m0.testBit r ||(decide (r < k) && decide (P r)))
 | 0=>by simp
 | k+1=>by
  rw [List.range_succ,List.foldl_append]
  simp only [List.foldl_cons,List.foldl_nil]
  by_cases hP:P k
  ·rw [if_pos hP,Nat.testBit_or,dZ P m0 r k,Nat.testBit_two_pow]
   by_cases e:k=r
   ·subst e
    simp [hP]
   ·have:(decide (r < k+1))=decide (r < k):=by simp;omega
    rw [this]
    simp [e]
  ·rw [if_neg hP,dZ P m0 r k]
   by_cases e:k=r
   ·subst e
    simp [hP]
   ·have:(decide (r < k+1))=decide (r < k):=by simp;omega
    rw [this]
def jV (l:List Au.Nd):Nat:=(List.range l.length).foldl (fun m i=>if (l[i]?.map (·.none)).getD false=true then m ||| 2 ^ i else m) 0
theorem Rh (l:List Au.Nd) (S:Nat):vJ (l.map (·.last)) S (jV l) l.length=Au.out l S:=by
 apply Nat.eq_of_testBit_eq
 intro r
 have h1:vJ (l.map (·.last)) S (jV l) l.length=(List.range l.length).foldl (fun m i=>if S &&&((l.map (·.last))[i]?.getD 0)≠0 then m ||| 2 ^ i else m) (jV l):=rfl
 have h2:Au.out l S=(List.range l.length).foldl (fun m i=>if (∃x,l[i]?=some x∧(x.none=true∨S &&& x.last≠0)) then m ||| 2 ^ i else m) 0:=by
  unfold Au.out
  congr 1
  funext m i
  cases h:l[i]? with
  | none=>simp
  | some x=>simp
 rw [h1,dZ,h2,dZ,jV,dZ]
 by_cases hr:r < l.length
 ·have hl:l[r]?=some l[r]:=List.getElem?_eq_getElem hr
  simp only [hl,List.getElem?_map,Option.map_some,Option.getD_some,hr,decide_true,Bool.true_and,Nat.zero_testBit,Bool.false_or]
  cases hx:l[r].none <;> simp [hx]
 ·simp [hr]
theorem JQ (l:List Au.Nd) (h:l.length≤24):jV l < 2 ^ 24:=by
 apply Nat.lt_pow_two_of_testBit
 intro i hi
 rw [jV,dZ]
 simp
 omega
theorem JR (l:List Au.Nd) (x:Au.Nd):jV (l++[x])=if x.none=true then jV l ||| 2 ^ l.length else jV l:=by
 apply Nat.eq_of_testBit_eq
 intro r
 rw [jV,dZ]
 have hE:(jV l).testBit r=(decide (r < l.length) && decide ((l[r]?.map (·.none)).getD false=true)):=by rw [jV,dZ];simp
 by_cases hr:r < l.length
 ·have e2:¬ l.length=r:=by omega
  rw [List.getElem?_append_left hr]
  split
  ·rw [Nat.testBit_or,hE,Nat.testBit_two_pow]
   simp [hr,e2]
   omega
  ·rw [hE]
   simp [hr]
   omega
 ·by_cases e:l.length=r
  ·subst e
   split
   ·rename_i hx
    rw [Nat.testBit_or,hE,Nat.testBit_two_pow]
    simp [hx]
   ·rename_i hx
    rw [hE]
    simp [hx]
  ·split
   ·rw [Nat.testBit_or,hE,Nat.testBit_two_pow]
    simp [hr,e]
    omega
   ·rw [hE]
    simp [hr]
    omega
def Iw (w:World) (a:Option Addr) (n:Nat) (L:List Int):Prop:=L.length=n∧∃b off,(0 < n→a=some ⟨b,off,none⟩∧b < w.heap.size)∧∀(j:Nat) (x:Int),L[j]?=some x→w.cell? ⟨b,off+j,none⟩=some (.int .i64 x)
theorem Iw.keep {w w':World} {a:Option Addr} {n:Nat} {L:List Int} (h:Iw w a n L) (ho:Only (fun _=>False) w w'):Iw w' a n L:=by
 obtain⟨hl,b,off,h1,h2⟩:=h
 refine⟨hl,b,off,fun h0=>⟨(h1 h0).1,Nat.lt_of_lt_of_le (h1 h0).2 ho.size⟩,fun j x hj=>?_⟩
 have h0:0 < n:=by have:=(List.getElem?_eq_some_iff.1 hj).1;omega
 exact (World.cell?_of_block (a:=⟨b,off+j,none⟩) (ho.block b (h1 h0).2 (fun h=>h))).trans (h2 j x hj)
structure Wy where
 a:Option Addr
 n:Nat
 c:Nat
 L:List Int
def NF:Wy:=⟨none,0,0,[]⟩
def Nw (w:World) (a:Option Addr) (n:Nat) (ws:List Wy):Prop:=ws.length=n∧∃b off,(0 < n→a=some ⟨b,off,none⟩∧b < w.heap.size)∧∀(j:Nat) (x:Wy),ws[j]?=some x→Iw w x.a x.n x.L∧x.n≤maxLen∧w.cell? ⟨b,off+j,none⟩=some (.slice x.a x.n x.c)
theorem Nw.keep {w w':World} {a:Option Addr} {n:Nat} {ws:List Wy} (h:Nw w a n ws) (ho:Only (fun _=>False) w w'):Nw w' a n ws:=by
 obtain⟨hl,b,off,h1,h2⟩:=h
 refine⟨hl,b,off,fun h0=>⟨(h1 h0).1,Nat.lt_of_lt_of_le (h1 h0).2 ho.size⟩,fun j x hj=>?_⟩
 have h0:0 < n:=by have:=(List.getElem?_eq_some_iff.1 hj).1;omega
 obtain⟨k1,k2,k3⟩:=h2 j x hj
 exact⟨k1.keep ho,k2,(World.cell?_of_block (a:=⟨b,off+j,none⟩) (ho.block b (h1 h0).2 (fun h=>h))).trans k3⟩
def wy (ws:List Wy) (s:Int):Wy:=if 0≤s then ws[s.toNat]?.getD NF else NF
def run (ws:List Wy):Int→List Int→List Int
 | _,[]=>[]
 | s,c::cs=>if 0≤c∧c <((wy ws s).n:Int) then (wy ws s).L[c.toNat]?.getD 0::run ws ((wy ws s).L[c.toNat]?.getD 0) cs else []
def x9 (aN:Option Addr) (nN cN:Nat) (aO:Option Addr) (nO cO:Nat):Value:=.agg #[.slice aN nN cN,.slice aO nO cO]
theorem Nw.wy {w:World} {a:Option Addr} {n:Nat} {ws:List Wy} (h:Nw w a n ws) (s:Int):Iw w (wy ws s).a (wy ws s).n (wy ws s).L∧(wy ws s).n≤maxLen:=by
 have h0:Iw w NF.a NF.n NF.L∧NF.n≤maxLen:=⟨⟨rfl,0,0,fun h=>absurd h (by decide),fun j x hj=>by simp [NF] at hj⟩,Nat.zero_le _⟩
 unfold YtdlabakleldgaaaGreatDoor.wy
 split
 ·cases hx:ws[s.toNat]? with
  | none=>exact h0
  | some x=>
   obtain⟨_,b,off,_,h2⟩:=h
   exact⟨(h2 _ x hx).1,(h2 _ x hx).2.1⟩
 ·exact h0
theorem Cu (aN:Option Addr) (nN cN:Nat) (aO:Option Addr) (nO cO:Nat) (ws:List Wy) (s:Int) (w:World) (hN:Nw w aN nN ws) (hn:nN≤maxLen):
  Calls Tryz.prog 49 #[x9 aN nN cN aO nO cO,.int .i64 s] w fun e w'=>e=.returned (.slice (wy ws s).a (wy ws s).n (wy ws s).c)∧Only (fun _=>False) w w':=by
 unfold maxLen at hn
 by_cases h0:s < 0
 ·have hw:wy ws s=NF:=if_neg (by omega)
  rw [hw]
  unfold x9
  clear hN
  go_enter Tryz.func49,Tryz.ntmps49
  go_wp2_with fail
  go_ret
  exact⟨rfl,(Only.refl _ _).alloc _⟩
 ·have h0':¬ s < 0:=h0
  obtain⟨k,rfl⟩:∃k:Nat,s=(k:Int):=⟨s.toNat,by omega⟩
  have hw:wy ws (k:Int)=ws[k]?.getD NF:=by
   unfold wy
   rw [if_pos (by omega),Int.toNat_natCast]
  rw [hw]
  obtain⟨hl,b,off,h1,h2⟩:=hN
  by_cases hk:k < nN
  ·have hk':(k:Int) <(nN:Int):=by omega
   have hk2:¬(nN:Int)≤(k:Int):=by omega
   obtain⟨rfl,hb⟩:=h1 (by omega)
   obtain⟨x,hx⟩:∃x,ws[k]?=some x:=⟨_,List.getElem?_eq_getElem (by omega)⟩
   obtain⟨_,_,hc⟩:=h2 k x hx
   rw [hx]
   show Calls _ _ _ _ fun e w'=>e=.returned (.slice x.a x.n x.c)∧_
   obtain⟨xa,xn,xc,xL⟩:=x
   simp only at hc ⊢
   clear h1 h2 hw hx hl
   unfold x9
   go_enter Tryz.func49,Tryz.ntmps49
   go_wp2_with fail
   go_ret
   exact⟨rfl,(Only.refl _ _).alloc _⟩
  ·have hk':(nN:Int)≤(k:Int):=by omega
   have hx:ws[k]?=none:=List.getElem?_eq_none (by omega)
   rw [hx]
   show Calls _ _ _ _ fun e w'=>e=.returned (.slice none 0 0)∧_
   clear h1 h2 hw hx hl
   unfold x9
   go_enter Tryz.func49,Tryz.ntmps49
   go_wp2_with fail
   go_ret
   exact⟨rfl,(Only.refl _ _).alloc _⟩
theorem info3':(Tryz.prog.info? 3).map (fun i=>(i.zero,i.size,i.bytes))=some (some (.int .i64 0),1,8):=by kernel_rfl
theorem ja (w:World) (v:Value) (t:TypeId):∀(j:Nat) (u:Value),[v][j]?=some u→(w.alloc (.cells #[v] t)).cell? ((⟨w.heap.size,0,none⟩:Addr).add j)=some u:=by
 intro j u hj
 have hj0:=(List.getElem?_eq_some_iff.1 hj).1
 obtain rfl:j=0:=by simpa using hj0
 injection hj with hj
 subst hj
 rw [Addr.add_mid]
 exact (cell_of_row _ _ _ _ _ _ (heap_alloc_new w _)).trans rfl
def JS (w:World) (g:Nat) (aN:Option Addr) (nN cN:Nat) (aO:Option Addr) (nO cO:Nat):Prop:=w.heap[g]?=some (.cells #[.slice aN nN cN,.slice aO nO cO] 71 (0,0))
theorem JS.keep {w w':World} {g:Nat} {aN:Option Addr} {nN cN:Nat} {aO:Option Addr} {nO cO:Nat} (h:JS w g aN nN cN aO nO cO) (ho:Only (fun _=>False) w w'):JS w' g aN nN cN aO nO cO:=(ho.block g (Array.getElem?_eq_some_iff.1 h).1 (fun h=>h)).trans h
theorem JS.c0 {w:World} {g:Nat} {aN:Option Addr} {nN cN:Nat} {aO:Option Addr} {nO cO:Nat} (h:JS w g aN nN cN aO nO cO):w.cell? ⟨g,0,none⟩=some (.slice aN nN cN):=(cell_of_row _ _ _ _ _ _ h).trans rfl
theorem JS.c1 {w:World} {g:Nat} {aN:Option Addr} {nN cN:Nat} {aO:Option Addr} {nO cO:Nat} (h:JS w g aN nN cN aO nO cO):w.cell? ⟨g,1,none⟩=some (.slice aO nO cO):=(cell_of_row _ _ _ _ _ _ h).trans rfl
theorem NG (ws:List Wy):∀(s:Int) (pre:List Int) (C:List Int) (k:Nat) (c:Int),run ws 0 C=pre++run ws s (C.drop k)→C[k]?=some c→0≤c∧c <((wy ws s).n:Int)→run ws 0 C=(pre++[(wy ws s).L[c.toNat]?.getD 0])++run ws ((wy ws s).L[c.toNat]?.getD 0) (C.drop (k+1)):=by
 intro s pre C k c h hc hr
 have hk:=(List.getElem?_eq_some_iff.1 hc)
 rw [h,List.drop_eq_getElem_cons hk.1,hk.2,run,if_pos hr,List.append_assoc]
 rfl
theorem JU (ws:List Wy):∀(s:Int) (pre:List Int) (C:List Int) (k:Nat) (c:Int),run ws 0 C=pre++run ws s (C.drop k)→C[k]?=some c→¬(0≤c∧c <((wy ws s).n:Int))→run ws 0 C=pre:=by
 intro s pre C k c h hc hr
 have hk:=(List.getElem?_eq_some_iff.1 hc)
 rw [h,List.drop_eq_getElem_cons hk.1,hk.2,run,if_neg hr,List.append_nil]
theorem NH (aN:Option Addr) (nN cN:Nat) (aO:Option Addr) (nO cO:Nat) (ws:List Wy) (aC:Option Addr) (nC cC:Nat) (C:List Int) (w:World) (hN:Nw w aN nN ws) (hn:nN≤maxLen) (hn0:0 < nN) (hC:Iw w aC nC C) (JV:nC≤1000000):
  Calls Tryz.prog 28 #[x9 aN nN cN aO nO cO,.slice aC nC cC] w fun e w'=>∃v,e=.returned v∧w'.ownsRow (w.heap.size+1) 3 1 v ((run ws 0 C).length+1) (ints (0::run ws 0 C))∧Only (fun _=>False) w w':=by
 have HN:=zH hN
 have HC:=zH hC
 have HM:=zH hn
 obtain⟨i0,hi,hz0,hz1,hz2⟩:=info_parts info3'
 unfold maxLen at hn
 have hnz:¬(nN:Int)=0:=by omega
 have aa4:((nN:Int)==0)=false:=by simp;omega
 clear hN hC
 unfold x9
 go_enter Tryz.func28,Tryz.ntmps28
 go_wp2_with fail
 go_loopg [5,6,18] nC (fun gh s v i wr=>∃(k:Nat) (st:Int) (pre:List Int) (g cap:Nat) (W:World),W=wr∧gh=nC - k∧k≤nC∧s=.int .i64 st∧v=.slice (some ⟨g,0,none⟩) (k+1) cap∧i=.int .i64 (k:Int)∧pre.length=k∧run ws 0 C=pre++run ws st (C.drop k)∧W.ownsRow (w.heap.size+1) 3 1 (.slice (some ⟨g,0,none⟩) (k+1) cap) (k+1) (ints (0::pre))∧Only (fun _=>False) w W∧JS W w.heap.size aN nN cN aO nO cO)
 case atStart=>
  refine⟨0,0,[],w.heap.size+1,1,_,rfl,rfl,by omega,rfl,rfl,rfl,rfl,rfl,?_,((Only.refl _ _).alloc _).alloc _,JS.keep (w:=w.alloc (.cells #[.slice aN nN cN,.slice aO nO cO] 71)) (heap_alloc_new w _) ((Only.refl _ _).alloc _)⟩
  exact⟨rfl,Or.inr ⟨w.heap.size+1,1,#[.int .i64 0],rfl,Nat.le_refl _,heap_alloc2_new w _ _,Nat.le_refl _,by unfold maxLen;omega,rfl,rfl⟩⟩
 case round=>
  obtain⟨k,st,pre,g,cap,W,hW,rfl,hk,rfl,rfl,rfl,hpl,hrun,hown,hOr,XP⟩:=hrel
  subst hW
  have HOW:=zH hown
  have Za:=zH hrun
  have XQ:=zH hpl
  have HAb:=zH XP
  have HOr:=zH hOr
  have y0:=XP.c0
  have y1:=XP.c1
  clear hown hrun hpl XP hOr
  by_cases hlt:k < nC
  ·have t1:(k:Int) <(nC:Int):=by omega
   obtain⟨FX,b,off,h1,h2⟩:=HC.out.keep HOr.out
   obtain⟨rfl,hb⟩:=h1 (by omega)
   obtain⟨c,hc⟩:∃c,C[k]?=some c:=⟨_,List.getElem?_eq_getElem (by omega)⟩
   have hcc:=h2 k c hc
   have HCK:=zH hc
   clear h1 h2 hc FX
   have hW2:=Cu aN nN cN aO nO cO ws st W (HN.out.keep HOr.out) HM.out
   have U6:=((HN.out.keep HOr.out).wy st)
   have XR:=fun h=>NG ws st pre C k c Za.out HCK.out h
   have NI:=fun h=>JU ws st pre C k c Za.out HCK.out h
   generalize wy ws st=y at hW2 U6 XR NI
   obtain⟨ya,yn,yc,yL⟩:=y
   simp only at hW2 U6 XR NI
   have HW2:=zH hW2
   have HI:=zH U6
   have hyn:=U6.2
   unfold maxLen at hyn
   have HA:=zH XR
   have HS:=zH NI
   clear hW2 U6 XR NI
   by_cases hc0:c < 0
   ·go_wp2_with (go_at_call 49;have hcq:=HW2.out;unfold x9 at hcq;refine hcq.mono ?_;clear hcq;rintro e w5 ⟨rfl,df⟩)
    go_ret
    refine⟨_,rfl,?_,HOr.out.trans df⟩
    rw [HS.out (by omega),XQ.out]
    exact ai HOW.out df (fun _ _ h=>h)
   ·have hc0':¬ c < 0:=hc0
    obtain⟨m,rfl⟩:∃m:Nat,c=(m:Int):=⟨c.toNat,by omega⟩
    by_cases hcn:m < yn
    ·have hcn':(m:Int) <(yn:Int):=by omega
     have aa5:¬(yn:Int)≤(m:Int):=by omega
     obtain⟨⟨hyl,b2,U7,h3,h4⟩,_⟩:=HI.out
     obtain⟨rfl,hb2⟩:=h3 (by omega)
     obtain⟨t,ht⟩:∃t,yL[m]?=some t:=⟨_,List.getElem?_eq_getElem (by omega)⟩
     have htc:=h4 m t ht
     have hR:=HA.out ⟨by omega,by omega⟩
     rw [Int.toNat_natCast,ht] at hR
     simp only [Option.getD_some] at hR
     have HR:=zH hR
     have HTC:=zH htc
     clear h3 h4 hyl ht htc hR HA HS
     go_wp2_with (first |(go_at_call 49;have hcq:=HW2.out;unfold x9 at hcq;refine hcq.mono ?_;clear hcq;rintro e w5 ⟨rfl,df⟩;have q5:w5.cell? ⟨b2,U7+m,none⟩=some (.int .i64 t):=(World.cell?_of_block (a:=⟨b2,U7+m,none⟩) (df.block b2 hb2 (fun h=>h))).trans HTC.out;have oG:Hid (w5.ownsRow (w.heap.size+1) 3 1 (.slice (some ⟨g,0,none⟩) (k+1) cap) (k+1) (ints (0::pre))):=ai HOW.out df (fun _ _ h=>h);have HS5:Hid (Only (fun _=>False) w w5):=HOr.out.trans df;have FY:Hid (JS w5 w.heap.size aN nN cN aO nO cO):=HAb.out.keep df;have FZ:w.heap.size+1≤w5.heap.size:=(Array.getElem?_eq_some_iff.1 FY.out).1;clear df) |(at_builtin;refine wpList_append_own_at _ rfl _ _ 28 rfl (w.heap.size+1) 3 i0 (.int .i64 0) 1 8 Tryz.underlying28 hi hz0 hz1 hz2 rfl (by decide) _ _ _ rfl (oG.out.alloc (.cells #[.int .i64 t] 3)) ⟨w5.heap.size,0,none⟩ 1 1 [.int .i64 t] rfl rfl (ja _ _ _) (fun u hu=>by simp at hu;subst hu;rfl) (by unfold maxLen;omega) (by omega) (by simp;omega) ?_;intro v6 w6 hown6 kE _ _;obtain⟨g6,cap6,rfl,Ri,Rj,Rk,_⟩:=ax hown6 (by omega)))
     have hgb:w.heap.size+1≤g:=by
      obtain⟨g',cap',hv,hgb,_⟩:=ax HOW.out (by omega)
      injection hv with hv _ _
      injection hv with hv
      injection hv with hv
      omega
     have o1:Only (·=g) (w5.alloc (.cells #[.int .i64 t] 3)) w6:=(Only.refl (·=g) _).grown kE (fun k h=>by injection h with h;exact h.symm)
     have o2:Only (·=g) w w6:=((HS5.out.alloc _).mono (fun _ h=>h.elim)).trans o1
     have o3:Only (fun _=>False) w w6:=⟨o2.os,o2.tape,o2.output,o2.size,fun b hb _=>o2.block b hb (by omega)⟩
     have hab:JS w6 w.heap.size aN nN cN aO nO cO:=(o1.block w.heap.size (by simp;omega) (by omega)).trans (FY.out.keep ((Only.refl _ _).alloc _))
     have hints:ints (0::pre)++[.int .i64 t]=ints (0::(pre++[t])):=by unfold ints;simp
     rw [hints] at hown6
     go_roundg (nC -(k+1))
     case measure=>omega
     case rel=>exact⟨k+1,t,pre++[t],g6,cap6,w6,rfl,rfl,by omega,rfl,rfl,by go_num,by rw [List.length_append,XQ.out];rfl,HR.out,hown6,o3,hab⟩
    ·have hcn':(yn:Int)≤(m:Int):=by omega
     go_wp2_with (go_at_call 49;have hcq:=HW2.out;unfold x9 at hcq;refine hcq.mono ?_;clear hcq;rintro e w5 ⟨rfl,df⟩)
     go_ret
     refine⟨_,rfl,?_,HOr.out.trans df⟩
     rw [HS.out (by omega),XQ.out]
     exact ai HOW.out df (fun _ _ h=>h)
  ·have t2:decide ((k:Int) <(nC:Int))=false:=decide_eq_false (by omega)
   go_wp2_with fail
   go_ret
   refine⟨_,rfl,?_,HOr.out⟩
   have hl:C.length=nC:=HC.out.1
   have hr:=Za.out
   rw [List.drop_eq_nil_of_le (by omega),run,List.append_nil] at hr
   rw [hr,XQ.out]
   exact HOW.out
def NJ (W:World) (lo cl:Nat) (v:Value) (nx:List (List Nat)) (o:List Nat):Prop:=∃(rows:List (Nat × List Nat)) (vN vO:Value),v=.agg #[vN,vO]∧nx=rows.map (·.2)∧W.ownsRow lo 28 1 vN rows.length (rows.map (JN cl))∧W.ownsRow lo 32 1 vO o.length (o.map jw)∧JO W lo cl rows
def pJ:Value:=.agg #[.slice none 0 0,.slice none 0 0]
def Rm (w:World) (cl:Nat) (R:Option (List (List Nat) × List Nat)) (e:Ending) (w':World):Prop:=
 (match R with
 | none=>e=.returned (.tuple #[pJ,.int .i64 27])
 | some (nx,o)=>∃v,e=.returned (.tuple #[v,.int .i64 0])∧NJ w' w.heap.size cl v nx o)∧Only (fun _=>False) w w'
theorem JW:(Tryz.prog.info? 71).map (·.size)=some 2:=by kernel_rfl
theorem kH:(Tryz.prog.info? 3).map (fun i=>(i.zero,i.size,i.bytes))=some (some (.int .i64 0),1,8):=by kernel_rfl
theorem Rn:(Tryz.prog.info? 28).map (fun i=>(i.zero,i.size,i.bytes))=some (some (.slice none 0 0),1,24):=by kernel_rfl
theorem Ro:(Tryz.prog.info? 32).map (fun i=>(i.zero,i.size,i.bytes))=some (some (.int .u32 0),1,4):=by kernel_rfl
theorem JX (w:World):(zeroValue 3).run Tryz.prog w=.ok (.int .i64 0) w:=by kernel_rfl
theorem wf_i64 {a:Nat} (h:a≤1000):(Lit.int .i64 (a:Int)).wf=true:=by
 have e1:IntKind.min .i64=-9223372036854775808:=by decide
 have e2:IntKind.max .i64=9223372036854775807:=by decide
 have h0:(-9223372036854775808:Int)≤(a:Int):=by omega
 have h2:(a:Int)≤9223372036854775807:=by omega
 simp only [Lit.wf,e1,e2,h0,h2,decide_true,Bool.and_self]
theorem F6:Ue (DataW.put (DataW.map []:DataW Unit) (kc Tryz.prog 0) (.lit (.int .i64 0))) [0]:=by
 have h0:Ue (DataW.map []:DataW Unit) []:=fun S hS=>⟨by simp;rfl,by simp;rfl⟩
 have hI:IsMap (DataW.map []:DataW Unit):=World.ownsMap.isMap (World.ownsMap_made (H:=Unit) default Tryz.prog 124 (plainElem Tryz.prog 3))
 exact Ey hI h0 (by decide) (by simp)
theorem NK:keyOf Tryz.prog 124 (.agg #[.int .u64 0,.int .u64 0,.int .u64 0,.int .u64 0])=some (kc Tryz.prog 0):=by
 have h:=iI 0
 unfold sV sC at h
 rw [bL,bL,bL,bL] at h
 exact h
theorem F7 {Rp f_ n1 c1 n7 c7 N x:Nat} (h:(Value.slice (some ⟨Rp,0,none⟩) n7 c7).ownBlock=(Value.slice (some ⟨f_,0,none⟩) n1 c1).ownBlock∨(Value.slice (some ⟨Rp,0,none⟩) n7 c7).ownBlock=some N) (h1:f_≠x) (h2:N≠x):Rp≠x:=by
 rcases h with h | h
 ·injection h with h
  simp only at h
  rw [h]
  exact h1
 ·injection h with h
  simp only at h
  rw [h]
  exact h2
theorem Rq {f_ n1 c1 q:Nat} (h:f_≠q):¬(Value.slice (some ⟨f_,0,none⟩) n1 c1).ownBlock=some q:=fun e=>by
 injection e with e
 exact h e
theorem pK {w:World} {base base' e size n:Nat} {v:Value} {xs:List Value} (h:w.ownsRow base e size v n xs) (hb:base'≤base):w.ownsRow base' e size v n xs:=by
 obtain⟨hl,h | ⟨g,cap,cur,hv,h1,h2⟩⟩:=h
 ·exact⟨hl,Or.inl h⟩
 ·exact⟨hl,Or.inr ⟨g,cap,cur,hv,Nat.le_trans hb h1,h2⟩⟩
theorem zV (w:World) (x:Nat):∀j u,[jw x][j]?=some u→(w.alloc (.cells #[.int .u32 (x:Int)] 32)).cell? ((⟨w.heap.size,0,none⟩:Addr).add j)=some u:=by
 intro j u hj
 rw [Addr.add_mid,Nat.zero_add,cell_of_row _ _ _ _ _ _ (heap_alloc_new _ _)]
 have e:[jw x]=[Value.int .u32 (x:Int)]:=rfl
 rw [e] at hj
 simpa using hj
def PT : Prop := ∀ (g cl : Nat) (p : Au.Pl) (l : List Au.Nd) (fs : Nat) (vL : Value) (w : World), mV w g cl p fs vL (jV l) → Lw w (fun b => b < w.heap.size) vL (l.map (·.last)) → p.sets.length ≤ 200 → cl ≤ 24 → l.length ≤ 24 → (∀ x ∈ l.map (·.last), x < 2 ^ 256) → (∀ c, Au.by' p c < 2 ^ 256) →
    Calls Tryz.prog 58 #[.pointer (some ⟨g,0,none⟩)] w (Rm w cl (Au.states p l fs cl 301 0 [0] [] []))
end Go.Proofs.YtdlabakleldgaaaGreatDoor
