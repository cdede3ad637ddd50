/- Mch Next Tok -/
import Derived.Test.YtdlabakleldgaaaGreatDoorZ00
import Derived.Test.YtdlabakleldgaaaGreatDoorZ01
set_option linter.unusedVariables false
set_option linter.unusedSimpArgs false
set_option maxRecDepth 100000
set_option maxHeartbeats 8000000
namespace Go.Proofs.YtdlabakleldgaaaGreatDoor
namespace Au
open Rl (Ex)
structure Fr where
 op:Int
 left:List Ex
 nd:Nd
def begin':Ex→Pl→Option (Fr × Pl)
 | .mk op set kids,p=>
  if op=1 then (if p.sets.length=200 then none else some (⟨1,[],⟨false,2 ^ p.sets.length,2 ^ p.sets.length⟩⟩,{ p with sets:=p.sets++[set]}))
  else if op=2 then some (⟨2,kids,⟨true,0,0⟩⟩,p)
  else if op=3 then some (⟨3,kids,⟨false,0,0⟩⟩,p)
  else if op=4 then some (⟨4,kids.take 1,⟨true,0,0⟩⟩,p)
  else if op=5 then some (⟨5,kids.take 1,⟨false,0,0⟩⟩,p)
  else if op=6 then some (⟨6,kids.take 1,⟨true,0,0⟩⟩,p)
  else some (⟨op,[],⟨true,0,0⟩⟩,p)
def fin (f:Fr) (p:Pl):Pl:=if f.op=4∨f.op=5 then chain p f.nd.last f.nd.first else p
def zJ (op:Int) (o x:Nd):Nd:=if op=2 then seq1 o x else sD o x
def wE (op:Int) (o x:Nd) (p:Pl):Pl:=if op=2 then chain p o.last x.first else p
def jS:Nat→List Fr→Pl→Option (Option (Nd × Pl))
 | 0,_,_=>none
 | _+1,[],_=>none
 | n+1,f::fs,p=>match f.left with
  | k::ks=>match begin' k p with
   | none=>some none
   | some (g,p1)=>jS n (g::⟨f.op,ks,f.nd⟩::fs) p1
  | []=>match fs with
   | []=>some (some (f.nd,fin f p))
   | g::gs=>jS n (⟨g.op,g.left,zJ g.op g.nd f.nd⟩::gs) (wE g.op g.nd f.nd (fin f p))
def kf (op:Int):List Ex→Nd→Pl→Option (Nd × Pl)
 | [],o,p=>some (o,p)
 | e::es,o,p=>match node e p with
  | none=>none
  | some (x,p1)=>kf op es (zJ op o x) (wE op o x p1)
theorem Ef:∀(es:List Ex) (o:Nd) (p:Pl),kf 2 es o p=qG es o p
 | [],o,p=>by simp [kf,qG]
 | e::es,o,p=>by
  simp only [kf,qG]
  cases h:node e p with
  | none=>rfl
  | some r=>exact Ef es _ _
theorem Eg:∀(es:List Ex) (o:Nd) (p:Pl),kf 3 es o p=alts es o p
 | [],o,p=>by simp [kf,alts]
 | e::es,o,p=>by
  simp only [kf,alts]
  cases h:node e p with
  | none=>rfl
  | some r=>exact Eg es _ _
theorem zK (x:Nd):sD ⟨true,0,0⟩ x=⟨true,x.first,x.last⟩:=by simp [sD]
theorem wF (x:Nd):sD ⟨false,0,0⟩ x=x:=by simp [sD]
theorem Cc {op:Int} (hop:op≠2) (kids:List Ex) (b:Bool) (p:Pl):kf op (kids.take 1) ⟨b,0,0⟩ p=match one kids p with | none=>none | some (x,p1)=>some (sD ⟨b,0,0⟩ x,p1):=by
 cases kids with
 | nil=>cases b <;> simp [kf,one,sD]
 | cons e es=>
  simp only [List.take_succ_cons,List.take_zero,kf,one]
  cases node e p with
  | none=>rfl
  | some r=>simp [zJ,wE,hop]
theorem tZ (e:Ex) (p:Pl):node e p=match begin' e p with
  | none=>none
  | some (g,p1)=>match kf g.op g.left g.nd p1 with
   | none=>none
   | some (x,p2)=>some (x,fin ⟨g.op,[],x⟩ p2):=by
 obtain⟨op,set,kids⟩:=e
 unfold node begin'
 dsimp only
 by_cases o1:op=1
 ·rw [if_pos o1,if_pos o1]
  split
  ·rfl
  ·simp [kf,fin]
 rw [if_neg o1,if_neg o1]
 by_cases o2:op=2
 ·rw [if_pos o2,if_pos o2]
  simp only [Ef]
  cases qG kids ⟨true,0,0⟩ p with
  | none=>rfl
  | some r=>simp [fin]
 rw [if_neg o2,if_neg o2]
 by_cases o3:op=3
 ·rw [if_pos o3,if_pos o3]
  simp only [Eg]
  cases alts kids ⟨false,0,0⟩ p with
  | none=>rfl
  | some r=>simp [fin]
 rw [if_neg o3,if_neg o3]
 by_cases o4:op=4
 ·rw [if_pos o4,if_pos o4]
  simp only [Cc (show (4:Int)≠2 by decide)]
  cases one kids p with
  | none=>rfl
  | some r=>simp [fin,zK]
 rw [if_neg o4,if_neg o4]
 by_cases o5:op=5
 ·rw [if_pos o5,if_pos o5]
  simp only [Cc (show (5:Int)≠2 by decide)]
  cases one kids p with
  | none=>rfl
  | some r=>simp [fin,wF]
 rw [if_neg o5,if_neg o5]
 by_cases o6:op=6
 ·rw [if_pos o6,if_pos o6]
  simp only [Cc (show (6:Int)≠2 by decide)]
  cases one kids p with
  | none=>rfl
  | some r=>simp [fin,zK]
 rw [if_neg o6,if_neg o6]
 simp [kf,fin,o4,o5]
def XH (e:Ex):Prop:=∀(p:Pl) (op:Int) (o:Nd) (ks:List Ex) (fs:List Fr),∃m,∀n,jS (m+n) (⟨op,e::ks,o⟩::fs) p=match node e p with
 | none=>some none
 | some (x,p1)=>jS n (⟨op,ks,zJ op o x⟩::fs) (wE op o x p1)
theorem zL:∀(es:List Ex),(∀e∈es,XH e)→∀(op:Int) (o:Nd) (p:Pl) (fs:List Fr),∃m,∀n,jS (m+n) (⟨op,es,o⟩::fs) p=match kf op es o p with
  | none=>some none
  | some (x,p1)=>jS n (⟨op,[],x⟩::fs) p1
 | [],_,op,o,p,fs=>⟨0,fun n=>by simp [kf]⟩
 | e::es,h,op,o,p,fs=>by
  obtain⟨m1,h1⟩:=h e (by simp) p op o es fs
  simp only [kf]
  cases hn:node e p with
  | none=>
   refine⟨m1,fun n=>?_⟩
   rw [h1,hn]
  | some r=>
   obtain⟨x,p1⟩:=r
   obtain⟨m2,h2⟩:=zL es (fun e he=>h e (by simp [he])) op (zJ op o x) (wE op o x p1) fs
   refine⟨m1+m2,fun n=>?_⟩
   rw [Nat.add_assoc,h1,hn]
   exact h2 n
theorem t_ (e:Ex) (p:Pl) (g:Fr) (p1:Pl) (h:begin' e p=some (g,p1)):∃op set kids,e=.mk op set kids∧∀k∈g.left,k∈kids:=by
 obtain⟨op,set,kids⟩:=e
 refine⟨op,set,kids,rfl,?_⟩
 unfold begin' at h
 dsimp only at h
 have ht:∀k∈kids.take 1,k∈kids:=fun k hk=>List.mem_of_mem_take hk
 repeat' split at h
 all_goals first
  |(cases h;done)
  |(injection h with h;injection h with h _;subst h;first | exact fun k hk=>hk | exact ht | simp)
theorem M9:∀(e:Ex),XH e:=by
 intro e
 apply Ex.rec (motive_1:=fun e=>XH e) (motive_2:=fun es=>∀e∈es,XH e)
 ·intro op set kids ih p op' o ks fs
  cases hb:begin' (.mk op set kids) p with
  | none=>
   refine⟨1,fun n=>?_⟩
   rw [tZ,hb,Nat.add_comm 1 n]
   simp only [jS,hb]
  | some r=>
   obtain⟨g,p1⟩:=r
   obtain⟨_,_,aaR,hk,hl⟩:=t_ _ _ _ _ hb
   injection hk with _ _ hk
   subst hk
   obtain⟨m,hm⟩:=zL g.left (fun e he=>ih e (hl e he)) g.op g.nd p1 (⟨op',ks,o⟩::fs)
   have hs:∀N,jS (N+1) (⟨op',.mk op set kids::ks,o⟩::fs) p=jS N (g::⟨op',ks,o⟩::fs) p1:=fun N=>by simp only [jS,hb]
   have hx:node (.mk op set kids) p=match kf g.op g.left g.nd p1 with
     | none=>none
     | some (x,p2)=>some (x,fin ⟨g.op,[],x⟩ p2):=by rw [tZ,hb]
   cases XI:kf g.op g.left g.nd p1 with
   | none=>
    refine⟨m+1,fun n=>?_⟩
    rw [show m+1+n=(m+n)+1 by omega,hs,hx,XI]
    have:=hm n
    rw [XI] at this
    exact this
   | some r2=>
    obtain⟨x,p2⟩:=r2
    refine⟨m+1+1,fun n=>?_⟩
    rw [show m+1+1+n=(m+(n+1))+1 by omega,hs,hx,XI]
    have:=hm (n+1)
    rw [XI] at this
    exact this
 ·intro e he
  cases he
 ·intro e es he hes k hk
  rcases List.mem_cons.1 hk with rfl | hk
  ·exact he
  ·exact hes k hk
theorem I7 (e:Ex) (p:Pl):∃m,jS m [⟨3,[e],⟨false,0,0⟩⟩] p=some (node e p):=by
 obtain⟨m,h⟩:=M9 e p 3 ⟨false,0,0⟩ [] []
 refine⟨m+1,?_⟩
 rw [h]
 cases node e p with
 | none=>rfl
 | some r=>
  obtain⟨x,p1⟩:=r
  have e1:zJ 3 ⟨false,0,0⟩ x=x:=by rw [zJ,if_neg (by decide),wF]
  have e2:wE 3 ⟨false,0,0⟩ x p1=p1:=by rw [wE,if_neg (by decide)]
  simp only [e1,e2,jS,fin]
  rfl
mutual
def dp:Ex→Nat
 | .mk _ _ kids=>1+fO kids
def fO:List Ex→Nat
 | []=>0
 | e::es=>max (dp e) (fO es)
end
theorem oW:∀(es:List Ex) (e:Ex),e∈es→dp e≤fO es
 | e0::es,e,h=>by
  unfold fO
  rcases List.mem_cons.1 h with rfl | h
  ·omega
  ·have:=oW es e h;omega
theorem xU:∀(es:List Ex) (n:Nat),(∀e∈es,dp e≤n)→fO es≤n
 | [],n,_=>by simp [fO]
 | e::es,n,h=>by
  unfold fO
  have h1:=h e (by simp)
  have h2:=xU es n (fun x hx=>h x (by simp [hx]))
  omega
def Hg (D:Nat):List Fr→Prop
 | []=>True
 | f::fs=>fs.length+1+fO f.left≤D∧Hg D fs
theorem Hg.len {D:Nat}:∀ {fs:List Fr},Hg D fs→fs.length≤D
 | [],_=>Nat.zero_le _
 | f::fs,h=>by have:=h.1;simp only [List.length_cons];omega
theorem Hg.push {D:Nat} {op:Int} {k:Ex} {ks:List Ex} {o:Nd} {fs:List Fr} (h:Hg D (⟨op,k::ks,o⟩::fs)) {p p1:Pl} {g:Fr} (hb:begin' k p=some (g,p1)):Hg D (g::⟨op,ks,o⟩::fs):=by
 obtain⟨h1,h2⟩:=h
 obtain⟨op',set,kids,rfl,hl⟩:=t_ _ _ _ _ hb
 have hd:fO g.left≤fO kids:=xU _ _ (fun e he=>oW _ _ (hl e he))
 unfold fO at h1
 unfold dp at h1
 refine⟨?_,?_,h2⟩
 ·simp only [List.length_cons];omega
 ·simp only;omega
theorem Hg.pop {D:Nat} {f g:Fr} {gs:List Fr} (h:Hg D (f::g::gs)) (o:Nd):Hg D (⟨g.op,g.left,o⟩::gs):=⟨h.2.1,h.2.2⟩
def Iv (fs:List Fr) (p:Pl):Prop:=rJ p∧p.sets.length≤200∧∀f∈fs,mF p f.nd
theorem mF.mono {p p1:Pl} {x:Nd} (h:mF p x) (hl:p.sets.length≤p1.sets.length):mF p1 x:=⟨Nat.lt_of_lt_of_le h.1 (kg hl),Nat.lt_of_lt_of_le h.2 (kg hl)⟩
theorem I8 {e:Ex} {p p1:Pl} {g:Fr} (h:begin' e p=some (g,p1)) (hp:rJ p) (hl:p.sets.length≤200):rJ p1∧p1.sets.length≤200∧mF p1 g.nd∧p.sets.length≤p1.sets.length:=by
 obtain⟨op,set,kids⟩:=e
 have z:∀b,mF p ⟨b,0,0⟩:=fun b=>⟨Nat.two_pow_pos _,Nat.two_pow_pos _⟩
 have hpl:rJ { p with sets:=p.sets++[set]}:=by
  intro i
  obtain⟨a,b⟩:=hp i
  show p.next i < 2 ^(p.sets++[set]).length∧((p.sets++[set]).length≤i→p.next i=0)
  rw [show (p.sets++[set]).length=p.sets.length+1 by simp]
  exact⟨Nat.lt_of_lt_of_le a (kg (by omega)),fun hi=>b (by omega)⟩
 unfold begin' at h
 dsimp only at h
 split at h
 ·split at h
  ·cases h
  ·rename_i hne
   injection h with h
   injection h with hg hp1
   subst hg hp1
   have e:(p.sets++[set]).length=p.sets.length+1:=by simp
   refine⟨hpl,?_,?_,?_⟩
   ·show (p.sets++[set]).length≤200
    omega
   ·show 2 ^ p.sets.length < 2 ^(p.sets++[set]).length∧2 ^ p.sets.length < 2 ^(p.sets++[set]).length
    rw [e,Nat.pow_succ]
    have:=Nat.two_pow_pos p.sets.length
    omega
   ·show p.sets.length≤(p.sets++[set]).length
    omega
 ·repeat' split at h
  all_goals
   injection h with h
   injection h with hg hp1
   subst hg hp1
   exact⟨hp,hl,z _,Nat.le_refl _⟩
theorem Iv.push {op:Int} {k:Ex} {ks:List Ex} {o:Nd} {fs:List Fr} {p p1:Pl} {g:Fr} (h:Iv (⟨op,k::ks,o⟩::fs) p) (hb:begin' k p=some (g,p1)):Iv (g::⟨op,ks,o⟩::fs) p1:=by
 obtain⟨h1,h2,h3⟩:=h
 obtain⟨a,b,c,d⟩:=I8 hb h1 h2
 refine⟨a,b,fun f hf=>?_⟩
 rcases List.mem_cons.1 hf with rfl | hf
 ·exact c
 rcases List.mem_cons.1 hf with rfl | hf
 ·exact (h3 ⟨op,k::ks,o⟩ (by simp)).mono d
 ·exact (h3 f (by simp [hf])).mono d
theorem QS {f:Fr} {p:Pl} (h:rJ p) (hf:mF p f.nd):rJ (fin f p)∧(fin f p).sets=p.sets:=by
 unfold fin
 split
 ·exact⟨h.chain hf.2 hf.1,rfl⟩
 ·exact⟨h,rfl⟩
theorem UF {op:Int} {o x:Nd} {p:Pl} (h:rJ p) (ho:mF p o) (hx:mF p x):rJ (wE op o x p)∧(wE op o x p).sets=p.sets∧mF p (zJ op o x):=by
 have hN:mF p (zJ op o x):=by
  unfold zJ
  split
  ·unfold seq1
   refine⟨?_,?_⟩
   ·simp only;split
    ·exact Nat.or_lt_two_pow ho.1 hx.1
    ·exact ho.1
   ·simp only;split
    ·exact Nat.or_lt_two_pow ho.2 hx.2
    ·exact hx.2
  ·exact⟨Nat.or_lt_two_pow ho.1 hx.1,Nat.or_lt_two_pow ho.2 hx.2⟩
 unfold wE
 split
 ·exact⟨h.chain ho.2 hx.1,rfl,hN⟩
 ·exact⟨h,rfl,hN⟩
theorem Iv.fin {f:Fr} {fs:List Fr} {p:Pl} (h:Iv (f::fs) p):Iv (f::fs) (fin f p):=by
 obtain⟨h1,h2,h3⟩:=h
 obtain⟨a,b⟩:=QS h1 (h3 f (by simp))
 refine⟨a,by rw [b];exact h2,fun k hk=>?_⟩
 have:=h3 k hk
 unfold mF at this ⊢
 rw [b]
 exact this
theorem Iv.pop {f g:Fr} {gs:List Fr} {p:Pl} (h:Iv (f::g::gs) p):Iv (⟨g.op,g.left,zJ g.op g.nd f.nd⟩::gs) (wE g.op g.nd f.nd p):=by
 obtain⟨h1,h2,h3⟩:=h
 obtain⟨a,b,c⟩:=UF (op:=g.op) h1 (h3 g (by simp)) (h3 f (by simp))
 refine⟨a,by rw [b];exact h2,fun k hk=>?_⟩
 have:mF p k.nd:=by
  rcases List.mem_cons.1 hk with rfl | hk
  ·exact c
  ·exact h3 k (by simp [hk])
 unfold mF at this ⊢
 rw [b]
 exact this
end Au
end Go.Proofs.YtdlabakleldgaaaGreatDoor
namespace Go.Proofs.YtdlabakleldgaaaGreatDoor
open Go.RowKit
theorem I9 (rb:Nat) (S:ByteArray) (i:Nat) (x:Rd) (t:Rl.Tk) (ts:List Rl.Tk) (w:World) (hR:bY w rb S i x) (hs:Rl.jg S.data.toList i (t::ts)) (hi:i≤S.size) (hS:S.size≤4096):
  Calls Tryz.prog 52 #[.pointer (some ⟨rb,0,none⟩)] w fun e w'=>e=jN t∧bY w' rb S (t.at':Int) x∧Only (·=rb) w w':=by
 have c0:=hR.c0
 have c1:=hR.c1
 have hlt:=hR.lt
 have hf1:=hR.fz 1
 have hii:(i:Int)≤(S.size:Int):=by omega
 obtain⟨m,hm⟩:∃m,m=Rl.blk false (S.data.toList.drop i):=⟨_,rfl⟩
 have hbl:∀w,Calls Tryz.prog 71 #[.string (S.extract i S.size)] w (fun e w'=>e=.returned (.int .i64 (m:Int))∧w'=w):=fun w=>by
  have:=BU (S.extract i S.size) w (by rw [ByteArray.size_extract];omega)
  rw [Lib.extract_data,List.take_of_length_le (by rw [List.length_drop,←Lib.size_eq];omega),←hm] at this
  exact this
 have hbH:=zH hbl
 have ht:Hid (t.at'=i+m):=(by rw [Rl.sQ hs,hm];rfl:t.at'=i+m)
 have hm2:i+m≤S.size:=by have:=Rl.Pn S.data.toList i (by rw [←Lib.size_eq];omega);rw [←Rl.sQ hs,ht.out,←Lib.size_eq] at this;exact this
 clear hm hbl
 obtain⟨G,hG⟩:∃G,G=w.heap.size:=⟨_,rfl⟩
 have HR:=zH hR
 have Hs:=zH hs
 clear hR hs
 go_enter Tryz.func52,Tryz.ntmps52
 go_wp2_with fail
 go_cut [] from 5 to 21 (fun wr=>∃W,W=wr∧bY W rb S (t.at':Int) x∧Only (·=rb) w W∧W.heap[G]?=some (.cells #[.string ⟨#[]⟩,.int .i64 0] 108 (0,0)))
 case first=>
  go_region_with (go_at_call 71;refine (hbH.out _).mono ?_;rintro e w' ⟨rfl,rfl⟩)
  all_goals
   go_wp2_with fail
   go_meet
   case rel=>
    have e1:IntKind.i64.wrap ((i:Int)+m)=(t.at':Int):=by rw [IntKind.wrap_i64,ht.out];omega
    rw [e1,hG]
    refine⟨_,rfl,((HR.out.set1 _).alloc _).drew,(((Only.refl (·=rb) w).setCell (p:=⟨rb,1,none⟩) rfl _).alloc _).drew,?_⟩
    have:=heap_alloc_new (w.setCell ⟨rb,1,none⟩ (.int .i64 (t.at':Int))) (.cells #[.string ⟨#[]⟩,.int .i64 0] 108)
    rw [show (w.setCell ⟨rb,1,none⟩ (.int .i64 (t.at':Int))).heap.size=w.heap.size by simp [World.setCell]] at this
    exact this
 case rest=>
  obtain⟨W,hW,hR2,hO2,hG2⟩:=hcut
  have d0:=hR2.c0
  have d1:=hR2.c1
  have hti:(t.at':Int)≤(S.size:Int):=by have:=ht.out;omega
  have HR2:=zH hR2
  have aK:=zH hO2
  obtain⟨r,hr⟩:∃r,r=S.extract t.at' S.size:=⟨_,rfl⟩
  have hrs:r.size=S.size - t.at':=by rw [hr,ByteArray.size_extract];omega
  have hrd:Hid (r.data.toList=S.data.toList.drop t.at'):=(by rw [hr,Lib.extract_data,List.take_of_length_le (by rw [List.length_drop,←Lib.size_eq];omega)]:r.data.toList=S.data.toList.drop t.at')
  have htk:Hid (t.text=r.data.toList.take (Rl.ic r.data.toList)∧t.bad=decide (r.data.toList≠[]∧Rl.ic r.data.toList=0)):=by
   have h1:=Hs.out.1
   have h2:=Rl.sQ Hs.out
   rw [hrd.out,h2]
   rw [h1]
   exact⟨rfl,rfl⟩
  have g0:W.cell? ⟨G,0,none⟩=some (.string ⟨#[]⟩):=(cell_of_row _ _ _ _ _ _ hG2).trans rfl
  have g1:W.cell? ⟨G,1,none⟩=some (.int .i64 0):=(cell_of_row _ _ _ _ _ _ hG2).trans rfl
  have gf0:W.frozen? ⟨G,0,none⟩=false:=by simp [World.frozen?,hG2]
  have gf1:W.frozen? ⟨G,1,none⟩=false:=by simp [World.frozen?,hG2]
  have HG2:=zH hG2
  have Hr:=zH hr
  rw [←hW,←hG]
  have HG:=zH hG
  have hGr:G≠rb:=by omega
  have hGw:w.heap.size≤G:=by omega
  clear hR2 hO2 hG2 c0 c1 hf1 hW hG
  go_wp2_with fail
  go_quiet (fail)
  rw [←hr]
  clear hr
  obtain⟨n,hn⟩:∃n,n=Rl.jR r.data.toList:=⟨_,rfl⟩
  have hnl:∀w,Calls Tryz.prog 72 #[.string r] w (fun e w'=>e=.returned (.int .i64 (n:Int))∧w'=w):=fun w=>by rw [hn];exact rM r w (by omega)
  have Hn:=zH hn
  have Hnl:=zH hnl
  clear hn hnl
  by_cases h0:0 < n
  ·have h0':(0:Int) <(n:Int):=by omega
   have hle:(n:Int)≤(r.size:Int):=by have:=Rl.BQ r.data.toList;rw [←Hn.out,←Lib.size_eq] at this;omega
   go_wp2_with (go_at_call 72;refine (Hnl.out _).mono ?_;rintro e w' ⟨rfl,rfl⟩)
   go_region
   all_goals go_wp2_with fail
   have hE:jN t=.returned (.agg #[.string (r.extract 0 n),.int .i64 (t.at':Int)]):=by
    have hp:Rl.ic r.data.toList=n:=by unfold Rl.ic;rw [←Hn.out,if_pos h0]
    have h1:=htk.out
    rw [hp] at h1
    unfold jN
    rw [if_neg (by rw [h1.2];simp;omega),h1.1,ji]
   rw [hE]
   refine bodyPost_ret (v:=.agg #[.string (r.extract 0 n),.int .i64 (t.at':Int)]) (by simp [results,Tryz.results52,go_sem,g0,g1]) rfl ?_
   refine⟨rfl,(((HR2.out.drewN _).setOther (by omega) _).setOther (by omega) _),((aK.out.drewN _).aS (by omega) _).aS (by omega) _⟩
  ·obtain rfl:n=0:=by omega
   clear h0
   by_cases hre:r.size=0
   ·have hnil0:r.data.toList=[]:=by rw [←List.length_eq_zero_iff,←Lib.size_eq];exact hre
    have he:r.toList.isEmpty=true:=by rw [Lib.toList_data,hnil0];rfl
    clear hnil0
    have hle:(0:Int)≤(r.size:Int):=by omega
    have hE:jN t=.returned (.agg #[.string (r.extract 0 0),.int .i64 (t.at':Int)]):=by
     have hnil:r.data.toList=[]:=by rw [←List.length_eq_zero_iff,←Lib.size_eq];exact hre
     have h1:=htk.out
     rw [hnil] at h1
     unfold jN
     rw [if_neg (by rw [h1.2];simp),h1.1,ji];rfl
    have HE:=zH hE
    clear hE hre
    go_wp2_with (go_at_call 72;refine (Hnl.out _).mono ?_;rintro e w' ⟨rfl,rfl⟩)
    go_region
    all_goals go_wp2_with fail
    refine bodyPost_ret (v:=.agg #[.string (r.extract 0 0),.int .i64 (t.at':Int)]) (by simp [results,Tryz.results52,go_sem,g0,g1]) rfl ?_
    exact⟨HE.out.symm,(((HR2.out.drewN _).setOther (by omega) _).setOther (by omega) _),((aK.out.drewN _).aS (by omega) _).aS (by omega) _⟩
   ·have QT:0 < r.size:=by omega
    have he:r.toList.isEmpty=false:=by
     rw [Lib.toList_data]
     cases h:r.data.toList with
     | nil=>rw [Lib.size_eq,h] at QT;simp at QT
     | cons a l=>rfl
    have hle:(1:Int)≤(r.size:Int):=by omega
    have aa0:(0:Int) <(r.size:Int):=by omega
    have Pv:Hid (r.data.toList=r[0]::r.data.toList.drop 1):=(by have:=qI QT;simpa using this:r.data.toList=r[0]::r.data.toList.drop 1)
    obtain⟨q,hq⟩:∃q,q=Lib.indexByte Rl.signs r[0]:=⟨_,rfl⟩
    have hix:∀w,Calls Tryz.prog 73 #[.string ⟨#[40,41,91,93,94,124,42,43,63,46,59,47,61]⟩,.int .u8 (r[0].toNat:Int)] w (fun e w'=>e=.returned (.int .i64 q)∧w'=w):=fun w=>by rw [hq];exact vH _ _ w
    have T_:=zH hix
    have hhas:=mQ Rl.signs r[0]
    rw [←hq] at hhas
    have hpl:Rl.ic r.data.toList=if Rl.signs.contains r[0]=true then 1 else 0:=by
     unfold Rl.ic
     rw [←Hn.out,if_neg (by omega)]
     rw [Pv.out]
    by_cases hc:Rl.signs.contains r[0]=true
    ·have hq0:(0:Int)≤q:=hhas.2 hc
     have hE:jN t=.returned (.agg #[.string (r.extract 0 1),.int .i64 (t.at':Int)]):=by
      rw [if_pos hc] at hpl
      have h1:=htk.out
      rw [hpl] at h1
      unfold jN
      rw [if_neg (by rw [h1.2];simp),h1.1,ji]
     have HE:=zH hE
     clear hE hre hq hix hhas hpl hc
     go_wp2_with (first |(go_at_call 72;refine (Hnl.out _).mono ?_;rintro e w' ⟨rfl,rfl⟩) |(go_at_call 73;refine (T_.out _).mono ?_;rintro e w' ⟨rfl,rfl⟩))
     go_region
     all_goals go_wp2_with fail
     refine bodyPost_ret (v:=.agg #[.string (r.extract 0 1),.int .i64 (t.at':Int)]) (by simp [results,Tryz.results52,go_sem,g0,g1]) rfl ?_
     exact⟨HE.out.symm,(((HR2.out.drewN _).setOther (by omega) _).setOther (by omega) _),((aK.out.drewN _).aS (by omega) _).aS (by omega) _⟩
    ·have hq0:¬(0:Int)≤q:=fun h=>hc (hhas.1 h)
     have hq1:decide ((0:Int)≤q)=false:=decide_eq_false hq0
     have hE:jN t=.panicked (BV 20 t.at'):=by
      rw [if_neg hc] at hpl
      have h1:=htk.out
      rw [hpl,Pv.out] at h1
      unfold jN
      rw [if_pos (by rw [h1.2];simp)]
     have HE:=zH hE
     clear hE hre hq hix hhas hpl hc
     go_wp2_with (first |(go_at_call 72;refine (Hnl.out _).mono ?_;rintro e w' ⟨rfl,rfl⟩) |(go_at_call 73;refine (T_.out _).mono ?_;rintro e w' ⟨rfl,rfl⟩) |(go_at_call 53;refine (bR 20 t.at' _).mono ?_;rintro e w' ⟨rfl,rfl⟩))
     exact⟨rfl,HE.out.symm,HR2.out.drewN _,aK.out.drewN _⟩
def In (w:World) (rb:Nat) (S:ByteArray) (x:Rd) (ts:List Rl.Tk):Prop:=∃i:Nat,bY w rb S i x∧Rl.jg S.data.toList i ts∧i≤S.size
theorem In.only {w w':World} {rb:Nat} {S:ByteArray} {x:Rd} {ts:List Rl.Tk} {P:Nat→Prop} (h:In w rb S x ts) (ho:Only P w w') (hn:¬ P rb):In w' rb S x ts:=by
 obtain⟨i,h1,h2⟩:=h
 exact⟨i,h1.only ho hn,h2⟩
theorem In.lt {w:World} {rb:Nat} {S:ByteArray} {x:Rd} {ts:List Rl.Tk} (h:In w rb S x ts):rb < w.heap.size:=by
 obtain⟨i,h1,h2⟩:=h
 exact h1.lt
theorem In.alloc {w:World} {rb:Nat} {S:ByteArray} {x:Rd} {ts:List Rl.Tk} (h:In w rb S x ts) (o:Obj):In (w.alloc o) rb S x ts:=by
 obtain⟨i,h1,h2⟩:=h
 exact⟨i,h1.alloc o,h2⟩
theorem Eh (rb:Nat) (S:ByteArray) (x:Rd) (t:Rl.Tk) (ts:List Rl.Tk) (w:World) (h:In w rb S x (t::ts)) (hS:S.size≤4096):
  Calls Tryz.prog 52 #[.pointer (some ⟨rb,0,none⟩)] w fun e w'=>e=jN t∧bY w' rb S (t.at':Int) x∧Rl.jg S.data.toList t.at' (t::ts)∧t.at'+t.text.length≤S.size∧Only (·=rb) w w':=by
 obtain⟨i,h1,h2,h3⟩:=h
 refine (I9 rb S i x t ts w h1 h2 h3 hS).mono ?_
 rintro e w' ⟨h4,h5,h6⟩
 have e1:=Rl.sQ h2
 refine⟨h4,h5,by rw [e1];exact Rl.MV h2,?_,h6⟩
 have:=Rl.xK S.data.toList i (by rw [←Lib.size_eq];exact h3)
 rw [h2.1,←Lib.size_eq] at *
 exact this
theorem FO {t:Rl.Tk} (h:t.bad=true):jN t=.panicked (BV 20 t.at'):=if_pos h
theorem I_ {t:Rl.Tk} (h:¬ t.bad=true):jN t=.returned (.agg #[.string (bs t.text),.int .i64 (t.at':Int)]):=if_neg h
theorem bf (l:Rl.Str):(bs l).size=l.length:=by rw [Lib.size_eq,xM]
theorem bZ (l:Rl.Str):(bs l).toList=l:=by rw [Lib.toList_data,xM]
theorem iY (rb:Nat) (S:ByteArray) (i:Int) (a:Nat) (s:Rl.Str) (x:Rd) (w:World) (hR:bY w rb S i x) (ha:a+s.length≤4096):
  Calls Tryz.prog 54 #[.pointer (some ⟨rb,0,none⟩),.agg #[.string (bs s),.int .i64 (a:Int)]] w fun e w'=>e=.returned (.tuple #[])∧bY w' rb S ((a+s.length:Nat):Int) x∧Only (·=rb) w w':=by
 have c1:=hR.c1
 have hf1:=hR.fz 1
 have hlt:=hR.lt
 have HR:=zH hR
 have hsz:=bf s
 have h0:0≤(a:Int):=by omega
 have h1:(a:Int)+(s.length:Int)≤4096:=by omega
 clear hR
 go_enter Tryz.func54,Tryz.ntmps54
 go_wp2
 go_end0
 have e1:((a+s.length:Nat):Int)=(a:Int)+(s.length:Int):=by omega
 rw [e1]
 exact⟨rfl,(HR.out.set1 _).alloc _,((Only.refl (·=rb) w).setCell (p:=⟨rb,1,none⟩) rfl _).alloc _⟩
theorem bN (s:Rl.Str) (a:Int) (w:World) (hs:s.length≤4096):Calls Tryz.prog 85 #[.agg #[.string (bs s),.int .i64 a]] w fun e w'=>e=.returned (.bool (decide (0 < Rl.jR s)))∧Only (fun _=>False) w w':=by
 have hnl:=rM (bs s)
 rw [xM] at hnl
 obtain⟨n,hn⟩:∃n,n=Rl.jR s:=⟨_,rfl⟩
 rw [←hn] at hnl ⊢
 have Hnl:Hid (∀w,Calls Tryz.prog 72 #[.string (bs s)] w (fun e w'=>e=.returned (.int .i64 (n:Int))∧w'=w)):=fun w=>hnl w (by rw [bf];omega)
 clear hn hnl
 go_enter Tryz.func85,Tryz.ntmps85
 go_wp2_with (go_at_call 72;refine (Hnl.out _).mono ?_;rintro e w' ⟨rfl,rfl⟩)
 go_ret
 exact⟨rfl,(Only.refl _ w).alloc _⟩
theorem iZ (rb:Nat) (S:ByteArray) (x:Rd) (t:Rl.Tk) (ts:List Rl.Tk) (w:World) (h:In w rb S x (t::ts)) (hS:S.size≤4096) (hb:t.bad=true):
  Calls Tryz.prog 52 #[.pointer (some ⟨rb,0,none⟩)] w fun e w'=>e=.panicked (BV 20 t.at')∧Only (·=rb) w w':=by
 refine (Eh rb S x t ts w h hS).mono ?_
 rintro e w' ⟨h4,h5,h6,h7,h8⟩
 exact⟨h4.trans (FO hb),h8⟩
theorem bB (rb:Nat) (S:ByteArray) (x:Rd) (t:Rl.Tk) (ts:List Rl.Tk) (w:World) (h:In w rb S x (t::ts)) (hS:S.size≤4096) (hb:¬ t.bad=true):
  Calls Tryz.prog 52 #[.pointer (some ⟨rb,0,none⟩)] w fun e w'=>e=.returned (.agg #[.string (bs t.text),.int .i64 (t.at':Int)])∧bY w' rb S (t.at':Int) x∧Rl.jg S.data.toList t.at' (t::ts)∧t.at'+t.text.length≤S.size∧Only (·=rb) w w':=by
 refine (Eh rb S x t ts w h hS).mono ?_
 rintro e w' ⟨h4,h5⟩
 exact⟨h4.trans (I_ hb),h5⟩
def Pb (w:World) (b:Nat) (s:Rl.Str) (a:Nat):Prop:=w.heap[b]?=some (.cells #[.string (bs s),.int .i64 (a:Int)] 108 (0,0))
theorem Pb.new (w:World) (s:Rl.Str) (a:Nat):Pb (w.alloc (.cells #[.string (bs s),.int .i64 (a:Int)] 108)) w.heap.size s a:=heap_alloc_new _ _
theorem Pb.zero (w:World):Pb (w.alloc (.cells #[.string ⟨#[]⟩,.int .i64 0] 108)) w.heap.size [] 0:=heap_alloc_new _ _
theorem Pb.fz {w:World} {b:Nat} {s:Rl.Str} {a:Nat} (h:Pb w b s a) (k:Nat):w.frozen? ⟨b,k,none⟩=false:=by simp [World.frozen?,show w.heap[b]?=_ from h]
theorem Pb.c0 {w:World} {b:Nat} {s:Rl.Str} {a:Nat} (h:Pb w b s a):w.cell? ⟨b,0,none⟩=some (.string (bs s)):=(cell_of_row _ _ _ _ _ _ h).trans rfl
theorem Pb.c1 {w:World} {b:Nat} {s:Rl.Str} {a:Nat} (h:Pb w b s a):w.cell? ⟨b,1,none⟩=some (.int .i64 (a:Int)):=(cell_of_row _ _ _ _ _ _ h).trans rfl
theorem Pb.lt {w:World} {b:Nat} {s:Rl.Str} {a:Nat} (h:Pb w b s a):b < w.heap.size:=(Array.getElem?_eq_some_iff.1 h).1
theorem Pb.only {w w':World} {b:Nat} {s:Rl.Str} {a:Nat} {P:Nat→Prop} (h:Pb w b s a) (ho:Only P w w') (hn:¬ P b):Pb w' b s a:=(ho.block b h.lt hn).trans h
theorem Pb.alloc {w:World} {b:Nat} {s:Rl.Str} {a:Nat} (h:Pb w b s a) (o:Obj):Pb (w.alloc o) b s a:=(Below.heap_alloc _ _ _ h.lt).trans h
def UG (rb:Nat) (S:ByteArray) (x:Rd) (w:World) (F:Rl.R (Bool × List Rl.Tk)) (e:Ending) (w':World):Prop:=
 match F with
 | .error f=>e=.panicked (BV f.1 f.2)∧Only (·=rb) w w'
 | .ok (b,ts)=>e=.returned (.bool b)∧In w' rb S x ts∧Only (·=rb) w w'
theorem aF (c:UInt8) (rb:Nat) (S:ByteArray) (x:Rd) (ts:List Rl.Tk) (w:World) (h:In w rb S x ts) (hS:S.size≤4096):
  Calls Tryz.prog 74 #[.pointer (some ⟨rb,0,none⟩),.string ⟨#[c]⟩] w (UG rb S x w (Rl.took c ts)):=by
 cases ts with
 | nil=>obtain⟨i,_,h2,_⟩:=h;exact h2.elim
 | cons t ts=>
  have hlt:=h.lt
  by_cases hb:t.bad=true
  ·have hn:=iZ rb S x t ts w h hS hb
   have hF:Rl.took c (t::ts)=.error (20,t.at'):=by show (if _ then _ else _)=_;rw [if_pos hb]
   rw [hF]
   have HN:=zH hn
   clear hF hn h
   go_enter Tryz.func74,Tryz.ntmps74
   go_wp2_with (go_at_call 52;refine HN.out.mono ?_;rintro e w1 ⟨rfl,ho1⟩)
   exact⟨rfl,rfl,ho1⟩
  ·have hn:=bB rb S x t ts w h hS hb
   have HN:=zH hn
   have ht:=bZ t.text
   have hc0:(⟨#[c]⟩:ByteArray).toList=[c]:=by rw [Lib.toList_data]
   by_cases htx:t.text=[c]
   ·have hF:Rl.took c (t::ts)=.ok (true,ts):=by show (if _ then _ else _)=_;rw [if_neg hb,if_pos htx]
    rw [hF]
    have q:(t.text==[c])=true:=by rw [htx];simp
    have hne:Hid (t.text≠[]):=(by rw [htx];simp:t.text≠[])
    clear hF hn h hb htx
    go_enter Tryz.func74,Tryz.ntmps74
    go_wp2_with (first |(go_at_call 52;refine HN.out.mono ?_;rintro e w1 ⟨rfl,az,hs1,he1,ho1⟩;have lu:=zH hs1;clear hs1) |(go_at_call 54;refine (iY rb S t.at' t.at' t.text x _ (az.alloc _) (by omega)).mono ?_;rintro e w2 ⟨rfl,hR2,ho2⟩))
    go_ret
    exact⟨rfl,⟨_,hR2,Rl.eG lu.out hne.out,he1⟩,(ho1.alloc _).trans ho2⟩
   ·have hF:Rl.took c (t::ts)=.ok (false,t::ts):=by show (if _ then _ else _)=_;rw [if_neg hb,if_neg htx]
    rw [hF]
    have q:(t.text==[c])=false:=by simpa using htx
    clear hF hn h hb htx
    go_enter Tryz.func74,Tryz.ntmps74
    go_wp2_with (go_at_call 52;refine HN.out.mono ?_;rintro e w1 ⟨rfl,az,hs1,he1,ho1⟩;have lu:=zH hs1;clear hs1)
    go_ret
    exact⟨rfl,⟨_,az.alloc _,lu.out,by omega⟩,ho1.alloc _⟩
def UH (rb:Nat) (S:ByteArray) (x:Rd) (w:World) (F:Rl.R (List Rl.Tk)) (e:Ending) (w':World):Prop:=
 match F with
 | .error f=>e=.panicked (BV f.1 f.2)∧Only (·=rb) w w'
 | .ok ts=>e=.returned (.tuple #[])∧In w' rb S x ts∧Only (·=rb) w w'
theorem aU (c:UInt8) (rb:Nat) (S:ByteArray) (x:Rd) (ts:List Rl.Tk) (w:World) (h:In w rb S x ts) (hS:S.size≤4096):
  Calls Tryz.prog 55 #[.pointer (some ⟨rb,0,none⟩),.string ⟨#[c]⟩] w (UH rb S x w (Rl.want c ts)):=by
 cases ts with
 | nil=>obtain⟨i,_,h2,_⟩:=h;exact h2.elim
 | cons t ts=>
  have ht:=aF c rb S x (t::ts) w h hS
  by_cases hb:t.bad=true
  ·have hF:Rl.want c (t::ts)=.error (20,t.at'):=by show (if _ then _ else _)=_;rw [if_pos hb]
   have hF2:Rl.took c (t::ts)=.error (20,t.at'):=by show (if _ then _ else _)=_;rw [if_pos hb]
   rw [hF]
   rw [hF2] at ht
   have HT:=zH ht
   clear hF hF2 ht h
   go_enter Tryz.func55,Tryz.ntmps55
   go_wp2_with (go_at_call 74;refine HT.out.mono ?_;rintro e w1 ⟨rfl,ho1⟩)
   exact⟨rfl,rfl,ho1⟩
  ·by_cases htx:t.text=[c]
   ·have hF:Rl.want c (t::ts)=.ok ts:=by show (if _ then _ else _)=_;rw [if_neg hb,if_pos htx]
    have hF2:Rl.took c (t::ts)=.ok (true,ts):=by show (if _ then _ else _)=_;rw [if_neg hb,if_pos htx]
    rw [hF]
    rw [hF2] at ht
    have HT:=zH ht
    clear hF hF2 ht h
    go_enter Tryz.func55,Tryz.ntmps55
    go_wp2_with (go_at_call 74;refine HT.out.mono ?_;rintro e w1 ⟨rfl,hi1,ho1⟩)
    go_end0
    exact⟨rfl,hi1,ho1⟩
   ·have hF:Rl.want c (t::ts)=.error (21,t.at'):=by show (if _ then _ else _)=_;rw [if_neg hb,if_neg htx]
    have hF2:Rl.took c (t::ts)=.ok (false,t::ts):=by show (if _ then _ else _)=_;rw [if_neg hb,if_neg htx]
    rw [hF]
    rw [hF2] at ht
    have HT:=zH ht
    have HB:=zH hb
    clear hF hF2 ht h hb htx
    go_enter Tryz.func55,Tryz.ntmps55
    go_wp2_with (first |(go_at_call 74;refine HT.out.mono ?_;rintro e w1 ⟨rfl,hi1,ho1⟩) |(go_at_call 52;refine (bB rb S x t ts _ hi1 hS HB.out).mono ?_;rintro e w2 ⟨rfl,hR2,hs2,he2,ho2⟩) |(go_at_call 53;refine (bR 21 t.at' _).mono ?_;rintro e w3 ⟨rfl,rfl⟩))
    rename_i hK
    refine hK _ _ ?_
    go_wp2_with (go_at_call 53;refine (bR 21 t.at' _).mono ?_;rintro e w3 ⟨rfl,rfl⟩)
    exact⟨rfl,rfl,ho1.trans ho2⟩
def Py (rb:Nat) (S:ByteArray) (x:Rd) (w:World) (F:Rl.R (Rl.Tk × List Rl.Tk)) (e:Ending) (w':World):Prop:=
 match F with
 | .error f=>e=.panicked (BV f.1 f.2)∧Only (·=rb) w w'
 | .ok (t,ts)=>e=.returned (.agg #[.string (bs t.text),.int .i64 (t.at':Int)])∧In w' rb S x ts∧Only (·=rb) w w'
theorem ky (t:Rl.Tk):Rl.fe t=decide (0 < Rl.jR t.text):=rfl
theorem Ei {t:Rl.Tk} (h:Rl.fe t=true):t.text≠[]:=by
 intro e
 rw [ky,e] at h
 simp [Rl.jR] at h
theorem uf (rb:Nat) (S:ByteArray) (x:Rd) (ts:List Rl.Tk) (w:World) (h:In w rb S x ts) (hS:S.size≤4096):
  Calls Tryz.prog 107 #[.pointer (some ⟨rb,0,none⟩)] w (Py rb S x w (Rl.name ts)):=by
 cases ts with
 | nil=>obtain⟨i,_,h2,_⟩:=h;exact h2.elim
 | cons t ts=>
  have HI:=zH h
  have hlt:=h.lt
  clear h
  by_cases hb:t.bad=true
  ·have hF:Rl.name (t::ts)=.error (20,t.at'):=by show (if _ then _ else _)=_;rw [if_pos hb]
   rw [hF]
   clear hF
   have HB:=zH hb
   clear hb
   go_enter Tryz.func107,Tryz.ntmps107
   go_wp2_with (go_at_call 52;refine (iZ rb S x t ts _ (HI.out.alloc _) hS HB.out).mono ?_;rintro e w1 ⟨rfl,ho1⟩)
   exact⟨rfl,rfl,((Only.refl _ w).alloc _).trans ho1⟩
  ·have HB:=zH hb
   by_cases hnm:Rl.fe t=true
   ·have hF:Rl.name (t::ts)=.ok (t,ts):=by show (if _ then _ else _)=_;rw [if_neg hb,if_pos hnm]
    rw [hF]
    have HM:=zH hnm
    have hq:decide (0 < Rl.jR t.text)=true:=hnm
    clear hF hb hnm
    go_enter Tryz.func107,Tryz.ntmps107
    go_wp2_with (first |(go_at_call 52;refine (bB rb S x t ts _ (HI.out.alloc _) hS HB.out).mono ?_;rintro e w1 ⟨rfl,az,hs1,he1,ho1⟩;have lu:=zH hs1;clear hs1;have hl1:=ho1.size;simp at hl1) |(go_at_call 85;refine (bN t.text _ _ (by omega)).mono ?_;rintro e w2 ⟨rfl,ho2⟩;have hR2:=(az.alloc _).only ho2 (fun h=>h);have P2:Hid (Pb w2 w1.heap.size t.text t.at'):=(Pb.new w1 _ _).only ho2 (fun h=>h);have p0:=P2.out.c0;have p1:=P2.out.c1) |(go_at_call 54;refine (iY rb S t.at' t.at' t.text x _ hR2 (by omega)).mono ?_;rintro e w3 ⟨rfl,cz,ho3⟩;have P3:Hid (Pb w3 w1.heap.size t.text t.at'):=P2.out.only ho3 (by omega);have p0:=P3.out.c0;have p1:=P3.out.c1;have Q3:Hid (Pb w3 w.heap.size [] 0):=((((Pb.zero w).only ho1 (by omega)).alloc _).only ho2 (fun h=>h)).only ho3 (by omega);have q0:=Q3.out.c0;have q1:=Q3.out.c1;have qf0:=Q3.out.fz 0;have qf1:=Q3.out.fz 1;have HO:Hid (Only (·=rb) w w3):=((((Only.refl (·=rb) w).alloc _).trans ho1).alloc _).trans ((ho2.mono (fun _ h=>h.elim)).trans ho3)))
    refine bodyPost_ret (v:=.agg #[.string (bs t.text),.int .i64 (t.at':Int)]) (by simp [results,Tryz.results107,go_sem,q0,q1]) rfl ?_
    exact⟨rfl,⟨_,(cz.setOther (by show w.heap.size≠rb;omega) _).setOther (by show w.heap.size≠rb;omega) _,Rl.eG lu.out (Ei HM.out),he1⟩,(HO.out.aS (Nat.le_refl _) _).aS (Nat.le_refl _) _⟩
   ·have hF:Rl.name (t::ts)=.error (21,t.at'):=by show (if _ then _ else _)=_;rw [if_neg hb,if_neg hnm]
    rw [hF]
    have hq:decide (0 < Rl.jR t.text)=false:=by simpa [ky] using hnm
    clear hF hb hnm
    go_enter Tryz.func107,Tryz.ntmps107
    go_wp2_with (first |(go_at_call 52;refine (bB rb S x t ts _ (HI.out.alloc _) hS HB.out).mono ?_;rintro e w1 ⟨rfl,az,hs1,he1,ho1⟩;have lu:=zH hs1;clear hs1;have hl1:=ho1.size;simp at hl1) |(go_at_call 85;refine (bN t.text _ _ (by omega)).mono ?_;rintro e w2 ⟨rfl,ho2⟩;have P2:Hid (Pb w2 w1.heap.size t.text t.at'):=(Pb.new w1 _ _).only ho2 (fun h=>h);have p0:=P2.out.c0;have p1:=P2.out.c1) |(go_at_call 53;refine (bR 21 t.at' _).mono ?_;rintro e w3 ⟨rfl,rfl⟩))
    exact⟨rfl,rfl,((((Only.refl (·=rb) w).alloc _).trans ho1).alloc _).trans (ho2.mono (fun _ h=>h.elim))⟩
end Go.Proofs.YtdlabakleldgaaaGreatDoor
