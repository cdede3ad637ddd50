/- LSo2 LWy -/
import Derived.Test.YtdlabakleldgaaaGreatDoorZ00
import Derived.Test.YtdlabakleldgaaaGreatDoorZ27
set_option linter.unusedVariables false
set_option linter.unusedSimpArgs false
set_option maxRecDepth 100000
set_option maxHeartbeats 8000000
namespace Go.Proofs.YtdlabakleldgaaaGreatDoor.L
open Go.RowKit Go.Maps Go.Shelf
structure ER (n:Nat) (V:Nat→Nat) (i f:Nat) (ss:List (Nat × Nat)):Prop where
 le:f≤i
 len:ss.length≤f
 low:∀p q,p < f→f≤q→q < n→V p < V q
 same:∀p,f≤p→p≤i→p < n→V p=V f
 sO:∀a∈ss,a.1 < a.2∧a.2≤f∧∀p q,a.1≤p→p < a.2→q < n→(V q=V p↔a.1≤q∧q < a.2)
 all:∀p,p < f→∃a∈ss,a.1≤p∧p < a.2
theorem ER.start (n:Nat) (V:Nat→Nat):ER n V 0 0 []:=
  ⟨Nat.le_refl _, Nat.le_refl _, fun p q h => by omega, fun p h1 h2 h3 => by obtain rfl : p = 0 := by omega
                                                                             rfl,by simp,fun p h=>by omega⟩
theorem ER.on {n i f:Nat} {V:Nat→Nat} {ss:List (Nat × Nat)} (h:ER n V i f ss) (e:V i=V (i+1)) (hi:i+1 < n):ER n V (i+1) f ss:=
 ⟨by have:=h.le;omega,h.len,h.low,fun p h1 h2 h3=>by
  by_cases e2:p=i+1
  ·subst e2;rw [←e];exact h.same i h.le (Nat.le_refl _) (by omega)
  ·exact h.same p h1 (by omega) h3,h.sO,h.all⟩
theorem ER.shut {n i f:Nat} {V:Nat→Nat} {ss:List (Nat × Nat)} (h:ER n V i f ss) (hi:i < n) (so:∀p q,p < q→q < n→V p≤V q) (e:i+1=n∨V i≠V (i+1)):ER n V (i+1) (i+1) (ss++[(f,i+1)]):=by
  have hle:=h.le
  have up:∀p q,p < i+1→i+1≤q→q < n→V p < V q:=fun p q h1 h2 h3=>by
    have e1:V i < V (i+1):=by
      rcases e with e | e
      · omega
      · have:=so i (i+1) (by omega) (by omega);omega
    have a1:V p≤V i:=by
      by_cases e2:p=i
      · rw [e2];exact Nat.le_refl _
      · exact so p i (by omega) (by omega)
    have a2:V (i+1)≤V q:=by
      by_cases e2:q=i+1
      · rw [e2];exact Nat.le_refl _
      · exact so (i+1) q (by omega) h3
    omega
  refine ⟨Nat.le_refl _, by have := h.len; simp; omega, up, fun p h1 h2 h3 => by obtain rfl : p = i + 1 := by omega
                                                                                 rfl,fun a ha=>?_,fun p hp=>?_⟩
  · rw [List.mem_append] at ha
    rcases ha with ha | ha
    · obtain ⟨a1,a2,a3⟩:=h.sO a ha
      exact⟨a1,by omega,a3⟩
    · obtain rfl:a=(f,i+1):=by simpa using ha
      refine⟨by show f < i+1;omega,Nat.le_refl _,fun p q h1 h2 h3=>?_⟩
      have h1':f≤p:=h1
      have h2':p < i+1:=h2
      have ep:=h.same p h1' (by omega) (by omega)
      constructor
      · intro eq
        refine⟨?_,?_⟩
        · apply Nat.le_of_not_lt
          intro hq
          have:=h.low q p hq h1' (by omega)
          omega
        · apply Nat.lt_of_not_le
          intro hq
          have:=up p q h2' hq h3
          omega
      · rintro ⟨x1,x2⟩
        have x2':q < i+1:=x2
        rw [ep]
        exact h.same q x1 (by omega) h3
  · by_cases hf:p < f
    · obtain ⟨a,ha,h1⟩:=h.all p hf
      exact⟨a,by simp [ha],h1⟩
    · exact⟨(f,i+1),by simp,by show f≤p;omega,hp⟩
def hdr (b n:Nat) (a:Nat × Nat):Value:=.slice (some ⟨b,a.1,none⟩) (a.2 - a.1) (n - a.1)
def Vo (O:Nat→Nat) (L:List Nat) (p:Nat):Nat:=O (L.getD p 0)
theorem P8 {n:Nat} {O:Nat→Nat} {L:List Nat} (hl:L.length=n) (so:∀i j x y:Nat,i < j→L[i]?=some x→L[j]?=some y→O x≤O y):∀p q,p < q→q < n→Vo O L p≤Vo O L q:=fun p q h1 h2=>by
 have e1:L[p]?=some (L.getD p 0):=by rw [List.getD_eq_getElem?_getD,List.getElem?_eq_getElem (by omega)];rfl
 have e2:L[q]?=some (L.getD q 0):=by rw [List.getD_eq_getElem?_getD,List.getElem?_eq_getElem (by omega)];rfl
 exact so p q _ _ h1 e1 e2
theorem fA {w:World} {base base' e size n:Nat} {v:Value} {xs:List Value} (h:w.ownsRow base e size v n xs) (hb:base'≤base):w.ownsRow base' e size v n xs:=by
 obtain⟨hl,h | ⟨g,cap,cur,hv,h1,h2⟩⟩:=h
 ·exact⟨hl,Or.inl h⟩
 ·exact⟨hl,Or.inr ⟨g,cap,cur,hv,by omega,h2⟩⟩
theorem gd {L:List Nat} {i x:Nat} (h:L[i]?=some x) (O:Nat→Nat):Vo O L i=O x:=by unfold Vo;rw [List.getD_eq_getElem?_getD,h];rfl
theorem yF:(Tryz.prog.info? 28).map (fun i=>(i.zero,i.size,i.bytes))=some (some (.slice none 0 0),1,24):=by kernel_rfl
theorem Av (aN:Option Addr) (nN cN n bo oo co:Nat) (O:Nat→Nat) (w:World) (h0:0 < n) (hn:n≤100000) (h2:∀s,s < n→w.cell? ⟨bo,oo+s,none⟩=some (.int .u32 (O s:Int))):
  Calls Tryz.prog 95 #[.agg #[.slice aN nN cN,.slice (some ⟨bo,oo,none⟩) n co]] w fun e w'=>∃b v L ss,e=.returned v∧w.heap.size≤b∧L.Perm (List.range n)∧Nb w' b L∧ER n (Vo O L) n n ss∧w'.ownsRow (b+1) 28 1 v ss.length (ss.map (hdr b n))∧Only (fun _=>False) w w':=by
 have hmk:=fun (w:World)=>run_make_row' (P:=Tryz.prog) 28 3 (.int .i64 0) 8 Tryz.underlying28 kH rfl .i64 .i64 n (by omega) (by omega) w
 have HO:=zH h2
 have lbo:=World.block_lt_of_cell? w _ (h2 0 h0)
 clear h2
 go_enter Tryz.func95,Tryz.ntmps95
 go_wp2_with fail
 rw [uG]
 obtain⟨W,hW⟩:∃W,W=(w.alloc (.cells #[.slice aN nN cN,.slice (some ⟨bo,oo,none⟩) n co] 71)).alloc (.cells (nums (List.replicate n 0)) 3):=⟨_,rfl⟩
 rw [←hW]
 have HW:Hid (W.heap[w.heap.size]?=some (.cells #[.slice aN nN cN,.slice (some ⟨bo,oo,none⟩) n co] 71 (0,0))∧Nb W (w.heap.size+1) (List.replicate n 0)∧Only (fun _=>False) w W):=by
  rw [hW]
  refine⟨pU w _ _,?_,((Only.refl _ _).alloc _).alloc _⟩
  have:=heap_alloc_new (w.alloc (.cells #[.slice aN nN cN,.slice (some ⟨bo,oo,none⟩) n co] 71)) (.cells (nums (List.replicate n 0)) 3)
  rw [show (w.alloc (.cells #[.slice aN nN cN,.slice (some ⟨bo,oo,none⟩) n co] 71)).heap.size=w.heap.size+1 by simp] at this
  exact this
 clear hW hmk
 go_loopg [14] n (fun gh v wr=>∃(k:Nat) (Y:World),Y=wr∧gh=n - k∧k≤n∧v=.int .i64 (k:Int)∧Nb Y (w.heap.size+1) (upto n k)∧Only (fun b=>b=w.heap.size+1) W Y)
 case atStart=>exact⟨0,_,rfl,rfl,Nat.zero_le _,rfl,by rw [qY];exact HW.out.2.1,Only.refl _ _⟩
 case round=>
  obtain⟨k,Y,hY,rfl,hk,rfl,hr,ho⟩:=hrel
  subst hY
  have HY:Hid (Nb Y (w.heap.size+1) (upto n k)∧Only (fun b=>b=w.heap.size+1) W Y):=⟨hr,ho⟩
  by_cases hlt:k < n
  ·have t1:(k:Int) <(n:Int):=by omega
   obtain⟨x1,hx1⟩:∃x1,(upto n k)[k]?=some x1:=⟨_,List.getElem?_eq_getElem (by rw [Am hk];exact hlt)⟩
   have c1:=hr.cell hx1
   have f1:∀x,Y.frozen? ⟨w.heap.size+1,x,none⟩=false:=fun x=>hr.fz x
   have lrb:=hr.lt
   clear hr ho hx1
   go_wp2_with fail
   go_roundg (n -(k+1))
   case measure=>omega
   case rel=>
    refine⟨k+1,_,rfl,rfl,by omega,by go_num,?_,?_⟩
    ·have:=HY.out.1.set k k
     rw [uH hlt] at this
     exact this
    ·exact HY.out.2.setCell (p:=⟨w.heap.size+1,k,none⟩) rfl _
  ·have t2:decide ((k:Int) <(n:Int))=false:=decide_eq_false (by omega)
   have hkn:k=n:=by omega
   subst hkn
   clear hr ho
   have hN:Nb Y (w.heap.size+1) (List.range k):=by have:=HY.out.1;rw [wZ] at this;exact this
   have hA:Y.heap[w.heap.size]?=some (.cells #[.slice aN nN cN,.slice (some ⟨bo,oo,none⟩) k co] 71 (0,0)):=(HY.out.2.block _ (Array.getElem?_eq_some_iff.1 HW.out.1).1 (by omega)).trans HW.out.1
   have ZM:∀s,s < k→Y.cell? ⟨bo,oo+s,none⟩=some (.int .u32 (O s:Int)):=fun s hs=>by
    have e1:=HW.out.2.2.block bo lbo (fun h=>h)
    have e2:=HY.out.2.block bo (Nat.lt_of_lt_of_le lbo HW.out.2.2.size) (by omega)
    exact (World.cell?_of_block (a:=⟨bo,oo+s,none⟩) (e2.trans e1)).trans (HO.out s hs)
   have HC:=KM k w.heap.size bo oo co (w.heap.size+1) O Y h0 hn hN (ae hA) ZM (by omega) (by omega)
   have HC:=zH HC
   have HA:=zH hA
   have ES:=zH ZM
   clear hN hA ZM
   go_wp2_with (first |(go_at_call 114;refine Calls.mono HC.out ?_;rintro e Z ⟨rfl,L,hp,hso,hL,hoZ⟩;have HZ:Hid (L.Perm (List.range k)∧(∀i j x y:Nat,i < j→L[i]?=some x→L[j]?=some y→O x≤O y)∧Nb Z (w.heap.size+1) L∧Only (fun b=>b=w.heap.size+1) Y Z):=⟨hp,hso,hL,hoZ⟩;clear hp hso hL hoZ))
   clear HC
   have HD:Hid (L.length=k∧(∀x∈L,x < k)∧Z.heap[w.heap.size]?=some (.cells #[.slice aN nN cN,.slice (some ⟨bo,oo,none⟩) k co] 71 (0,0))∧(∀s,s < k→Z.cell? ⟨bo,oo+s,none⟩=some (.int .u32 (O s:Int)))∧Only (fun _=>False) w Z∧w.heap.size+2≤Z.heap.size):=by
    obtain⟨h1,h2,h3,h4⟩:=HZ.out
    have lY:=(Array.getElem?_eq_some_iff.1 HA.out).1
    refine⟨by rw [h1.length_eq,List.length_range],fun x hx=>by simpa using h1.mem_iff.1 hx,(h4.block _ lY (by omega)).trans HA.out,fun s hs=>?_,?_,by have:=h3.lt;omega⟩
    ·have lb:=World.block_lt_of_cell? Y _ (ES.out s hs)
     exact (World.cell?_of_block (a:=⟨bo,oo+s,none⟩) (h4.block bo lb (by omega))).trans (ES.out s hs)
    ·have:=((HW.out.2.2.mono (S':=fun b=>b=w.heap.size+1) (fun _ h=>h.elim)).trans HY.out.2).trans h4
     exact this.old (fun g hg=>Or.inl (by omega))
   clear HA ES HY HW
   obtain⟨i23,g23,Oc,Od,Oe⟩:=info_parts yF
   go_loopg [5,6,27] k (fun gh v5 v6 v27 wr=>∃(i f:Nat) (a5:Option Addr) (m5 c5:Nat) (ss:List (Nat × Nat)) (X:World),X=wr∧gh=k - i∧i≤k∧v5=.slice a5 m5 c5∧v6=.int .i64 (f:Int)∧v27=.int .i64 (i:Int)∧m5=ss.length∧ER k (Vo O L) i f ss∧(i=k→f=k)∧X.ownsRow Z.heap.size 28 1 (.slice a5 m5 c5) m5 (ss.map (hdr (w.heap.size+1) k))∧Only (fun _=>False) Z X)
   case atStart=>exact⟨0,0,none,0,0,[],_,rfl,rfl,Nat.zero_le _,rfl,rfl,rfl,rfl,ER.start _ _,fun h=>by omega,⟨rfl,Or.inl ⟨rfl,rfl⟩⟩,Only.refl _ _⟩
   case round=>
    obtain⟨i,f,a5,m5,c5,ss,X,hX,rfl,hi,rfl,rfl,rfl,VV,hR,hF,hown,VZ⟩:=hrel
    subst hX
    have HR:Hid (ER k (Vo O L) i f ss∧(i=k→f=k)∧X.ownsRow Z.heap.size 28 1 (.slice a5 m5 c5) m5 (ss.map (hdr (w.heap.size+1) k))∧Only (fun _=>False) Z X∧m5=ss.length):=⟨hR,hF,hown,VZ,VV⟩
    have hfi:=hR.le
    have g_:=hR.len
    rw [←VV] at g_
    clear hR hF hown VZ VV
    by_cases hlt:i < k
    ·have t1:(i:Int) <(k:Int):=by omega
     have hA:X.cell? ⟨w.heap.size,1,none⟩=some (.slice (some ⟨bo,oo,none⟩) k co):=ae ((HR.out.2.2.2.1.block _ (Array.getElem?_eq_some_iff.1 HD.out.2.2.1).1 (fun h=>h)).trans HD.out.2.2.1)
     have Yc:Nb X (w.heap.size+1) L:=HZ.out.2.2.1.only HR.out.2.2.2.1 (fun h=>h)
     obtain⟨x,hx⟩:∃x,L[i]?=some x:=⟨_,List.getElem?_eq_getElem (by have:=HD.out.1;omega)⟩
     have hxk:x < k:=HD.out.2.1 x (List.mem_of_getElem? hx)
     have cx:=Yc.cell hx
     have kO:∀s,s < k→X.cell? ⟨bo,oo+s,none⟩=some (.int .u32 (O s:Int)):=fun s hs=>(World.cell?_of_block (a:=⟨bo,oo+s,none⟩) (HR.out.2.2.2.1.block bo (World.block_lt_of_cell? Z _ (HD.out.2.2.2.1 s hs)) (fun h=>h))).trans (HD.out.2.2.2.1 s hs)
     have cox:=kO x hxk
     have lb1:=World.block_lt_of_cell? X _ hA
     have lb2:=World.block_lt_of_cell? X _ cx
     have lb3:=World.block_lt_of_cell? X _ cox
     have HX:=zH hx
     have HKO:=zH kO
     have tx:(x:Int) <(k:Int):=by omega
     clear hx kO
     by_cases hl1:i+1=k
     ·have tl:(i:Int)+1=(k:Int):=by omega
      have hsh:i+1=k∨Vo O L i≠Vo O L (i+1):=Or.inl hl1
      clear Yc
      go_wp2_with fail
      go_quiet (fail)
      have s1:(f:Int)≤(i:Int)+1:=by omega
      have s2:(i:Int)+1≤(k:Int):=by omega
      have s3:(i:Int)+1 -(f:Int)=((i+1 - f:Nat):Int):=by omega
      have s4:f≤i+1:=by omega
      have s5:¬ k=f:=by omega
      have s6:(k:Int) -(f:Int)=((k - f:Nat):Int):=by omega
      go_wp2_with (first |(at_builtin;refine wpList_append_own_at _ rfl _ _ 69 rfl Z.heap.size 28 i23 (.slice none 0 0) 1 24 Tryz.underlying69 g23 Oc Od Oe rfl (by decide) (.slice a5 m5 c5) m5 (ss.map (hdr (w.heap.size+1) k)) rfl (ai HR.out.2.2.1 (((Only.refl (fun _=>False) X).drewN _).alloc _) (fun _ _ h=>h)) ⟨X.heap.size,0,none⟩ 1 1 [.slice (some ⟨w.heap.size+1,f,none⟩) (k - f) (k - f)] rfl rfl (ja _ _ _) (fun u hu=>by simp at hu;subst hu;rfl) (by unfold maxLen;omega) (by omega) (by have:=HR.out.2.2.2.1.size;simp;omega) ?_;intro v3 w3 ho3 hg3 _ yG;obtain⟨a3,c3,rfl⟩:=ah ho3;have fK:=zH ho3;have GK:Hid (Only (fun _=>False) Z w3):=(by
        have hb:∀q,(Value.slice a5 m5 c5).ownBlock=some q→Z.heap.size≤q:=fun q hk=>(by
         obtain⟨_,⟨hv,_⟩ | ⟨g',cap',cur',hv,h1,_⟩⟩:=HR.out.2.2.1
         ·rw [hv] at hk;cases hk
         ·rw [hv] at hk;injection hk with hk;subst hk;exact h1)
        exact ((((HR.out.2.2.2.1.mono (S':=fun b=>Z.heap.size≤b) (fun _ h=>h.elim)).drewN _).alloc _).grown hg3 hb).old (fun g hg=>Or.inl hg));clear ho3 hg3 yG))
      go_roundg (k -(i+1))
      case measure=>omega
      case rel=>
       refine⟨i+1,i+1,a3,m5+1,c3,ss++[(f,i+1)],_,rfl,rfl,by omega,rfl,by go_num,by go_num,by rw [List.length_append,←HR.out.2.2.2.2];rfl,HR.out.1.shut hlt (P8 HD.out.1 HZ.out.2.1) hsh,fun h=>h,by rw [List.map_append];exact (by have e:hdr (w.heap.size+1) k (f,i+1)=.slice (some ⟨w.heap.size+1,f,none⟩) (k - f) (k - f):=(by unfold hdr;rw [hl1]);rw [List.map_cons,List.map_nil,e];exact fK.out),GK.out⟩
     ·have hl2:i+1 < k:=by omega
      have tl:((i:Int)+1==(k:Int))=false:=by rw [beq_eq_false_iff_ne];omega
      have tl0:¬((i:Int)+1=(k:Int)):=by omega
      have tl2:(i:Int)+1 <(k:Int):=by omega
      obtain⟨y,hy⟩:∃y,L[i+1]?=some y:=⟨_,List.getElem?_eq_getElem (by have:=HD.out.1;omega)⟩
      have hyk:y < k:=HD.out.2.1 y (List.mem_of_getElem? hy)
      have cy:=Yc.cell hy
      have coy:=HKO.out y hyk
      have ty:(y:Int) <(k:Int):=by omega
      have HYy:=zH hy
      clear hy Yc
      by_cases hne:O x=O y
      ·have tn:((O x:Int)==(O y:Int))=true:=by rw [beq_iff_eq];omega
       go_wp2_with fail
       go_quiet (fail)
       go_wp2_with fail
       go_roundg (k -(i+1))
       case measure=>omega
       case rel=>
        refine⟨i+1,f,a5,m5,c5,ss,_,rfl,rfl,by omega,rfl,rfl,by go_num,HR.out.2.2.2.2,HR.out.1.on (by rw [gd HX.out,gd HYy.out];exact hne) hl2,fun h=>by omega,?_,HR.out.2.2.2.1.drewN _⟩
        exact ai HR.out.2.2.1 ((Only.refl (fun _=>False) X).drewN _) (fun _ _ h=>h)
      ·have tn:((O x:Int)==(O y:Int))=false:=by rw [beq_eq_false_iff_ne];omega
       have hsh:i+1=k∨Vo O L i≠Vo O L (i+1):=Or.inr (by rw [gd HX.out,gd HYy.out];exact hne)
       go_wp2_with fail
       go_quiet (fail)
       have s1:(f:Int)≤(i:Int)+1:=by omega
       have s2:(i:Int)+1≤(k:Int):=by omega
       have s3:(i:Int)+1 -(f:Int)=((i+1 - f:Nat):Int):=by omega
       have s4:f≤i+1:=by omega
       have s5:¬ k=f:=by omega
       have s6:(k:Int) -(f:Int)=((k - f:Nat):Int):=by omega
       go_wp2_with (first |(at_builtin;refine wpList_append_own_at _ rfl _ _ 69 rfl Z.heap.size 28 i23 (.slice none 0 0) 1 24 Tryz.underlying69 g23 Oc Od Oe rfl (by decide) (.slice a5 m5 c5) m5 (ss.map (hdr (w.heap.size+1) k)) rfl (ai HR.out.2.2.1 (((Only.refl (fun _=>False) X).drewN _).alloc _) (fun _ _ h=>h)) ⟨X.heap.size,0,none⟩ 1 1 [.slice (some ⟨w.heap.size+1,f,none⟩) (i+1 - f) (k - f)] rfl rfl (ja _ _ _) (fun u hu=>by simp at hu;subst hu;rfl) (by unfold maxLen;omega) (by omega) (by have:=HR.out.2.2.2.1.size;simp;omega) ?_;intro v3 w3 ho3 hg3 _ yG;obtain⟨a3,c3,rfl⟩:=ah ho3;have fK:=zH ho3;have GK:Hid (Only (fun _=>False) Z w3):=(by
         have hb:∀q,(Value.slice a5 m5 c5).ownBlock=some q→Z.heap.size≤q:=fun q hk=>(by
          obtain⟨_,⟨hv,_⟩ | ⟨g',cap',cur',hv,h1,_⟩⟩:=HR.out.2.2.1
          ·rw [hv] at hk;cases hk
          ·rw [hv] at hk;injection hk with hk;subst hk;exact h1)
         exact ((((HR.out.2.2.2.1.mono (S':=fun b=>Z.heap.size≤b) (fun _ h=>h.elim)).drewN _).alloc _).grown hg3 hb).old (fun g hg=>Or.inl hg));clear ho3 hg3 yG))
       go_roundg (k -(i+1))
       case measure=>omega
       case rel=>
        refine⟨i+1,i+1,a3,m5+1,c3,ss++[(f,i+1)],_,rfl,rfl,by omega,rfl,by go_num,by go_num,by rw [List.length_append,←HR.out.2.2.2.2];rfl,HR.out.1.shut hlt (P8 HD.out.1 HZ.out.2.1) hsh,fun h=>h,by rw [List.map_append];exact (fK.out),GK.out⟩
    ·have t2:decide ((i:Int) <(k:Int))=false:=decide_eq_false (by omega)
     obtain rfl:i=k:=by omega
     go_wp2_with fail
     go_ret
     obtain⟨h1,h2,h3,h4,h5⟩:=HR.out
     obtain rfl:f=i:=h2 trivial
     subst h5
     exact⟨w.heap.size+1,_,rfl,by omega,L,HZ.out.1,HZ.out.2.2.1.only h4 (fun h=>h),ss,h1,fA h3 (by have:=HD.out.2.2.2.2.2;omega),HD.out.2.2.2.2.1.trans h4⟩
end Go.Proofs.YtdlabakleldgaaaGreatDoor.L
namespace Go.Proofs.YtdlabakleldgaaaGreatDoor.L
open Go.RowKit Go.Maps
theorem Aw (n:Nat):madeCells #[.slice none 0 0] n=rowOf n (fun _=>.slice none 0 0):=by
 apply Array.ext
 ·simp [rowOf,size_madeCells]
 ·intro i h1 h2
  simp [madeCells,rowOf,Nat.mod_one]
theorem Og:(Tryz.prog.info? 69).map (fun i=>(i.zero,i.size,i.bytes))=some (some (.slice none 0 0),1,24):=by kernel_rfl
theorem Bw.low {W:World} {base base' n bc:Nat} {bk:Nat→List Nat} {vs:Nat→Value} (h:Bw W base n bc bk vs) (hb:base'≤base):Bw W base' n bc bk vs:=⟨h.blk,fun t ht=>fA (h.own t ht) hb,h.sep⟩
theorem Bw.fu {S:Nat→Prop} {W W':World} {base n bc:Nat} {bk:Nat→List Nat} {vs:Nat→Value} (h:Bw W base n bc bk vs) (ho:Only S W W') (hS:∀b,S b→∃cs,W.heap[b]?=some (.cells cs 69 (0,0))):Bw W' base n bc bk vs:=by
 refine⟨(ho.block bc (Array.getElem?_eq_some_iff.1 h.blk).1 (fun hs=>?_)).trans h.blk,fun t ht=>aQ (h.own t ht) ho (fun q hq hs=>?_),h.sep⟩
 ·obtain⟨cs,hc⟩:=hS _ hs
  rw [h.blk] at hc
  injection hc with hc
  injection hc with _ hc
  cases hc
 ·obtain⟨cs,hc⟩:=hS _ hs
  obtain⟨_,cur,h2⟩:=bz (h.own t ht) hq
  rw [h2] at hc
  injection hc with hc
  injection hc with _ hc
  cases hc
def V4 (W:World) (base n nc k bb:Nat) (vs:Nat→Value) (nx:Nat→Nat→Nat):Prop:=
 W.heap[bb]?=some (.cells (rowOf nc vs) 69 (0,0))∧∀c,c < k→∃bc vt,vs c=.slice (some ⟨bc,0,none⟩) n n∧base≤bc∧Bw W base n bc (iy (fun s=>nx s c) n) vt
def MM (W:World) (n nc bn on:Nat) (nx:Nat→Nat→Nat):Prop:=∀s,s < n→∃a c,W.cell? ⟨bn,on+s,none⟩=some (.slice a nc c)∧∀k,k < nc→∃b o,a=some ⟨b,o,none⟩∧W.cell? ⟨b,o+k,none⟩=some (.int .i64 (nx s k:Int))∧nx s k < n
theorem MM.keep {w W:World} {n nc bn on:Nat} {nx:Nat→Nat→Nat} (h:MM w n nc bn on nx) (ho:Only (fun _=>False) w W):MM W n nc bn on nx:=fun s hs=>by
 obtain⟨a,c,h1,h2⟩:=h s hs
 have kk:∀b i v,w.cell? ⟨b,i,none⟩=some v→W.cell? ⟨b,i,none⟩=some v:=fun b i v hv=>(World.cell?_of_block (a:=⟨b,i,none⟩) (ho.block b (World.block_lt_of_cell? w _ hv) (fun h=>h))).trans hv
 refine⟨a,c,kk _ _ _ h1,fun k hk=>?_⟩
 obtain⟨b,o,e,e1,e2⟩:=h2 k hk
 exact⟨b,o,e,kk _ _ _ e1,e2⟩
theorem yH (aO:Option Addr) (nO cO n nc bn on cN:Nat) (nx:Nat→Nat→Nat) (w:World) (h0:0 < n) (hn:n≤100000) (hc:nc≤100000) (hN:MM w n nc bn on nx):
  Calls Tryz.prog 98 #[.agg #[.slice (some ⟨bn,on,none⟩) n cN,.slice aO nO cO]] w fun e w'=>∃bb vs,e=.returned (.slice (some ⟨bb,0,none⟩) nc nc)∧w.heap.size≤bb∧V4 w' w.heap.size n nc nc bb vs nx∧Only (fun _=>False) w w':=by
 have ZN:=fun (w:World)=>run_make_row' (P:=Tryz.prog) 161 69 (.slice none 0 0) 24 Tryz.underlying161 Og rfl .i64 .i64 nc (by omega) (by omega) w
 have Gh:=fun (w:World)=>run_make_row' (P:=Tryz.prog) 69 28 (.slice none 0 0) 24 Tryz.underlying69 yF rfl .i64 .i64 n (by omega) (by omega) w
 obtain⟨i3,g3,Iq,Ir,Iu⟩:=info_parts kH
 have HN:=zH hN
 obtain⟨a0,c0,hc0,_⟩:=hN 0 h0
 rw [Nat.add_zero] at hc0
 have lbn:=World.block_lt_of_cell? w _ hc0
 have t0:(0:Int) <(n:Int):=by omega
 clear hN
 go_enter Tryz.func98,Tryz.ntmps98
 go_wp2_with fail
 rw [Aw]
 obtain⟨W,hW⟩:∃W,W=(w.alloc (.cells #[.slice (some ⟨bn,on,none⟩) n cN,.slice aO nO cO] 71)).alloc (.cells (rowOf nc (fun _=>.slice none 0 0)) 69):=⟨_,rfl⟩
 rw [←hW]
 have HW:Hid (W.heap[w.heap.size]?=some (.cells #[.slice (some ⟨bn,on,none⟩) n cN,.slice aO nO cO] 71 (0,0))∧W.heap[w.heap.size+1]?=some (.cells (rowOf nc (fun _=>.slice none 0 0)) 69 (0,0))∧Only (fun _=>False) w W∧W.heap.size=w.heap.size+2):=by
  rw [hW]
  refine⟨pU w _ _,?_,((Only.refl _ _).alloc _).alloc _,by simp⟩
  have:=heap_alloc_new (w.alloc (.cells #[.slice (some ⟨bn,on,none⟩) n cN,.slice aO nO cO] 71)) (.cells (rowOf nc (fun _=>.slice none 0 0)) 69)
  rw [show (w.alloc (.cells #[.slice (some ⟨bn,on,none⟩) n cN,.slice aO nO cO] 71)).heap.size=w.heap.size+1 by simp] at this
  exact this
 clear hW ZN hc0
 go_loopg [16] nc (fun gh v wr=>∃(c:Nat) (vs:Nat→Value) (V:World),V=wr∧gh=nc - c∧c≤nc∧v=.int .i64 (c:Int)∧V4 V w.heap.size n nc c (w.heap.size+1) vs nx∧Only (fun b=>b=w.heap.size+1) W V)
 case atStart=>exact⟨0,_,_,rfl,rfl,Nat.zero_le _,rfl,⟨HW.out.2.1,fun c h=>by omega⟩,Only.refl _ _⟩
 case round=>
  obtain⟨c,vs,V,hV,rfl,hcl,rfl,hB,w_⟩:=hrel
  subst hV
  have HV:Hid (V4 V w.heap.size n nc c (w.heap.size+1) vs nx∧Only (fun b=>b=w.heap.size+1) W V):=⟨hB,w_⟩
  have lV:=w_.size
  have hWs:=HW.out.2.2.2
  rw [hWs] at lV
  clear hB w_ hWs
  by_cases hlt:c < nc
  ·have t1:(c:Int) <(nc:Int):=by omega
   have HP:Hid (V.heap[w.heap.size]?=some (.cells #[.slice (some ⟨bn,on,none⟩) n cN,.slice aO nO cO] 71 (0,0))):=(HV.out.2.block _ (Array.getElem?_eq_some_iff.1 HW.out.1).1 (by omega)).trans HW.out.1
   have p0:V.cell? ⟨w.heap.size,0,none⟩=some (.slice (some ⟨bn,on,none⟩) n cN):=ae HP.out
   have b0:V.cell? ⟨w.heap.size+1,c,none⟩=some (vs c):=by rw [ae HV.out.1.1,bW _ hlt]
   have f0:∀x,V.frozen? ⟨w.heap.size+1,x,none⟩=false:=fun x=>ak HV.out.1.1 x
   have ZO:w.heap.size+1 < V.heap.size:=by omega
   have lpp:w.heap.size < V.heap.size:=by omega
   have ZP:(V.alloc (.cells (madeCells #[.slice none 0 0] n) 28)).heap[w.heap.size+1]?=some (.cells (rowOf nc vs) 69 (0,0)):=(Below.heap_alloc _ _ _ ZO).trans HV.out.1.1
   have f1:∀x,(V.alloc (.cells (madeCells #[.slice none 0 0] n) 28)).frozen? ⟨w.heap.size+1,x,none⟩=false:=fun x=>ak ZP x
   have b1:(V.alloc (.cells (madeCells #[.slice none 0 0] n) 28)).cell? ⟨w.heap.size+1,c,none⟩=some (vs c):=by rw [ae ZP,bW _ hlt]
   clear ZP
   go_wp2_with fail
   rw [Aw]
   obtain⟨U,hU⟩:∃U,U=(V.setCell ⟨w.heap.size+1,c,none⟩ (.slice (some ⟨V.heap.size,0,none⟩) n n)).alloc (.cells (rowOf n (fun _=>.slice none 0 0)) 28):=⟨_,rfl⟩
   rw [←hU]
   have HU:Hid (U.heap[V.heap.size]?=some (.cells (rowOf n (fun _=>.slice none 0 0)) 28 (0,0))∧U.heap[w.heap.size+1]?=some (.cells (rowOf nc (fun j=>if j=c then .slice (some ⟨V.heap.size,0,none⟩) n n else vs j)) 69 (0,0))∧Only (fun b=>b=w.heap.size+1) V U∧U.heap.size=V.heap.size+1):=by
    rw [hU]
    have hsv:(V.setCell ⟨w.heap.size+1,c,none⟩ (.slice (some ⟨V.heap.size,0,none⟩) n n)).heap.size=V.heap.size:=by simp [World.setCell]
    refine⟨?_,?_,((Only.refl (fun b=>b=w.heap.size+1) V).setCell (p:=⟨w.heap.size+1,c,none⟩) rfl _).alloc _,by simp [World.setCell]⟩
    ·have:=heap_alloc_new (V.setCell ⟨w.heap.size+1,c,none⟩ (.slice (some ⟨V.heap.size,0,none⟩) n n)) (.cells (rowOf n (fun _=>.slice none 0 0)) 28)
     rw [hsv] at this
     exact this
    ·refine (Below.heap_alloc _ _ _ (by rw [hsv];exact ZO)).trans ?_
     rw [aa HV.out.1.1,mi]
   have Yd:Hid (Only (fun _=>False) w U):=(((HW.out.2.2.1.mono (S':=fun b=>b=w.heap.size+1) (fun _ h=>h.elim)).trans HV.out.2).trans HU.out.2.2.1).old (fun g hg=>Or.inl (by omega))
   clear hU Gh p0 b0 f0 f1 b1
   go_loopg [29] n (fun gh v wr=>∃(s:Nat) (vt:Nat→Value) (Y:World),Y=wr∧gh=n - s∧s≤n∧v=.int .i64 (s:Int)∧Bw Y (V.heap.size+1) n V.heap.size (iy (fun s=>nx s c) s) vt∧Only (fun b=>b=V.heap.size) U Y)
   case atStart=>exact⟨0,_,_,rfl,rfl,Nat.zero_le _,rfl,Bw.start HU.out.1,Only.refl _ _⟩
   case round=>
    obtain⟨s,vt,Y,hY,rfl,hs,rfl,hBw,zn⟩:=hrel
    subst hY
    have HY:Hid (Bw Y (V.heap.size+1) n V.heap.size (iy (fun s=>nx s c) s) vt∧Only (fun b=>b=V.heap.size) U Y):=⟨hBw,zn⟩
    have ZQ:Hid (Only (fun _=>False) w Y):=((Yd.out.mono (S':=fun b=>b=V.heap.size) (fun _ h=>h.elim)).trans zn).old (fun g hg=>Or.inl (by omega))
    have lY:V.heap.size+1≤Y.heap.size:=by have h1:=zn.size;rw [HU.out.2.2.2] at h1;exact h1
    clear hBw zn
    by_cases hlt2:s < n
    ·have t3:(s:Int) <(n:Int):=by omega
     obtain⟨a1,c1,n1,n2⟩:=(HN.out.keep ZQ.out) s hlt2
     obtain⟨b2,o2,rfl,n3,n4⟩:=n2 c hlt
     clear n2
     obtain⟨tt,P9⟩:∃tt,tt=nx s c:=⟨_,rfl⟩
     have HT:=zH P9
     rw [←P9] at n3 n4
     clear P9
     have t4:(tt:Int) <(n:Int):=by omega
     obtain⟨m,hm⟩:∃m,m=(iy (fun s=>nx s c) s tt).length:=⟨_,rfl⟩
     have g_:m≤s:=by rw [hm];exact Ao _ _ _
     obtain⟨av,cv,ev⟩:=ah (HY.out.1.own tt n4)
     rw [←hm] at ev
     have HM:Hid (m=(iy (fun s=>nx s c) s tt).length∧vt tt=.slice av m cv):=⟨hm,ev⟩
     have HOWN:Hid (Y.ownsRow (V.heap.size+1) 3 1 (.slice av m cv) m (nums (iy (fun s=>nx s c) s tt)).toList):=by have:=HY.out.1.own tt n4;rw [←hm,ev] at this;exact this
     have Ya:Hid (Y.heap[w.heap.size+1]?=some (.cells (rowOf nc (fun j=>if j=c then .slice (some ⟨V.heap.size,0,none⟩) n n else vs j)) 69 (0,0))):=(HY.out.2.block _ (Array.getElem?_eq_some_iff.1 HU.out.2.1).1 (by omega)).trans HU.out.2.1
     have q1:Y.cell? ⟨w.heap.size+1,c,none⟩=some (.slice (some ⟨V.heap.size,0,none⟩) n n):=by rw [ae Ya.out,bW _ hlt,if_pos rfl]
     have q2:Y.cell? ⟨V.heap.size,tt,none⟩=some (.slice av m cv):=by rw [ae HY.out.1.blk,bW _ n4,ev]
     have q3:∀x,Y.frozen? ⟨V.heap.size,x,none⟩=false:=fun x=>ak HY.out.1.blk x
     have l1:=World.block_lt_of_cell? Y _ n1
     have l2:=World.block_lt_of_cell? Y _ n3
     have l3:=World.block_lt_of_cell? Y _ q1
     have l4:=World.block_lt_of_cell? Y _ q2
     clear hm ev
     go_wp2_with fail
     go_region_law (refine step_append_lies _ (by rfl) _ _ _ (by rfl) (V.heap.size+1) 3 i3 _ 1 8 Tryz.underlying28 g3 Iq Ir Iu rfl (by decide) (.slice av m cv) m (nums (iy (fun s=>nx s c) s tt)).toList (by rfl) (by exact HOWN.out.alloc _) ⟨Y.heap.size,0,none⟩ 1 1 [.int .i64 (s:Int)] (by rfl) rfl (World.news_of_block (cs:=#[.int .i64 (s:Int)]) (heap_alloc_new Y (.cells #[.int .i64 (s:Int)] 3))) (fun u hu=>by simp at hu;rcases hu with rfl;rfl) (by decide) (by unfold maxLen;omega) (by omega) (by simp;omega) (Y.heap.size+1) (by simp) ?_;intro g5 cap5 w5 hown5 gV jT vP;have oG:Hid (Only (fun b=>(Value.slice av m cv).ownBlock=some b) Y w5∧w5.ownsRow (V.heap.size+1) 3 1 (.slice (some ⟨g5,0,none⟩) (m+1) cap5) (m+1) ((nums (iy (fun s=>nx s c) s tt)).toList++[.int .i64 (s:Int)])∧((Value.slice av m cv).ownBlock=some g5∨g5=Y.heap.size+1)):=⟨(((Only.refl (fun b=>(Value.slice av m cv).ownBlock=some b) Y).alloc _).drew).grown gV (fun k hk=>hk),hown5,jT⟩;have hsz:∀q,(Value.slice av m cv).ownBlock=some q→V.heap.size+1≤q:=(fun q hq=>(bz HOWN.out hq).1);have e1:w5.heap[w.heap.size+1]?=Y.heap[w.heap.size+1]?:=oG.out.1.block _ l3 (fun h=>by have:=hsz _ h;omega);have e2:w5.heap[V.heap.size]?=Y.heap[V.heap.size]?:=oG.out.1.block _ l4 (fun h=>by have:=hsz _ h;omega);have r1:w5.cell? ⟨w.heap.size+1,c,none⟩=some (.slice (some ⟨V.heap.size,0,none⟩) n n):=(World.cell?_of_block (a:=⟨w.heap.size+1,c,none⟩) e1).trans q1;have r2:w5.cell? ⟨V.heap.size,tt,none⟩=some (.slice av m cv):=(World.cell?_of_block (a:=⟨V.heap.size,tt,none⟩) e2).trans q2;have r3:∀x,w5.frozen? ⟨V.heap.size,x,none⟩=false:=(fun x=>ak (e2.trans HY.out.1.blk) x);have l5:w.heap.size+1 < w5.heap.size:=Nat.lt_of_lt_of_le l3 oG.out.1.size;have l6:V.heap.size < w5.heap.size:=Nat.lt_of_lt_of_le l4 oG.out.1.size;clear hown5 gV jT hsz e1 e2)
     all_goals
      go_wp2_with fail
      go_roundg (n -(s+1))
      case measure=>omega
      case rel=>
       obtain⟨k1,k2,k3⟩:=oG.out
       obtain⟨m1,m2⟩:=HM.out
       rw [←m2] at k1 k3
       rw [m1] at k2
       obtain⟨s1,s2⟩:=HY.out.1.step n4 k1 k2 k3 (Nat.le_succ _)
       rw [←m1] at s1 s2
       refine⟨s+1,_,_,rfl,rfl,by omega,by go_num,by rw [GH,←HT.out];exact s1,?_⟩
       refine ((HY.out.2.mono (S':=fun b=>V.heap.size+1≤b∨b=V.heap.size) (fun _ h=>Or.inr h)).trans (s2.mono (fun b hb=>hb.elim (fun h=>Or.inl (bz (HY.out.1.own tt n4) h).1) Or.inr))).old (fun g hg=>hg.elim (fun h=>Or.inl (by rw [HU.out.2.2.2];exact h)) Or.inr)
    ·have t4:decide ((s:Int) <(n:Int))=false:=decide_eq_false (by omega)
     obtain rfl:s=n:=by omega
     go_wp2_with fail
     go_roundg (nc -(c+1))
     case measure=>omega
     case rel=>
      have hbb:Only (fun b=>b=w.heap.size+1∨b=V.heap.size) V Y:=(HU.out.2.2.1.mono (fun b h=>Or.inl h)).trans (HY.out.2.mono (fun b h=>Or.inr h))
      have V5:Only (fun b=>b=w.heap.size+1) V Y:=hbb.old (fun g hg=>hg.elim Or.inr (fun h=>Or.inl (by omega)))
      refine⟨c+1,_,_,rfl,rfl,by omega,by go_num,⟨(HY.out.2.block _ (Array.getElem?_eq_some_iff.1 HU.out.2.1).1 (by omega)).trans HU.out.2.1,fun c' hc'=>?_⟩,HV.out.2.trans V5⟩
      by_cases e:c'=c
      ·subst e
       exact⟨V.heap.size,vt,if_pos rfl,by omega,HY.out.1.low (by omega)⟩
      ·obtain⟨bc,vt2,j1,j2,j3⟩:=HV.out.1.2 c' (by omega)
       exact⟨bc,vt2,(if_neg e).trans j1,j2,j3.fu V5 (fun b hb=>by rw [hb];exact⟨_,HV.out.1.1⟩)⟩
  ·have t2:decide ((c:Int) <(nc:Int))=false:=decide_eq_false (by omega)
   obtain rfl:c=nc:=by omega
   go_wp2_with fail
   go_ret
   refine⟨w.heap.size+1,vs,rfl,by omega,HV.out.1,?_⟩
   exact ((HW.out.2.2.1.mono (S':=fun b=>b=w.heap.size+1) (fun _ h=>h.elim)).trans HV.out.2).old (fun g hg=>Or.inl (by omega))
end Go.Proofs.YtdlabakleldgaaaGreatDoor.L
