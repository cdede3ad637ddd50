/- LGr3 LGr LMk -/
import Derived.Test.YtchaoonefiamdaaGreatDoorZ40
import Derived.Test.YtchaoonefiamdaaGreatDoorZ35
namespace Go.Proofs.YtchaoonefiamdaaGreatDoor.L
open Go.RowKit Go.Maps
set_option linter.unusedVariables false
set_option linter.unusedSimpArgs false
theorem Kp.own {base B1 base' e size m:Nat} {w Y:World} {v:Value} {xs:List Value} (h:Kp base B1 w Y) (ho:w.ownsRow base' e size v m xs) (hb:B1≤base') (he:e≠141):Y.ownsRow base' e size v m xs:=by
  obtain ⟨hl,ho | ⟨g,cap,cur,hv,h1,h2,h3⟩⟩:=ho
  · exact ⟨hl,Or.inl ho⟩
  · exact ⟨hl,Or.inr ⟨g,cap,cur,hv,h1,h.new g _ (by omega) h2 (fun cs z e2=>by injection e2 with _ e2;exact he e2),h3⟩⟩
theorem Ms.not {Y:World} {gb rb ab ob n base B1 b:Nat} {vY:Value} {row at' of:List Nat} {ls:List (Nat × Nat × Nat)} (hM:Ms Y gb rb ab ob n base B1 vY row at' of ls) {cs:Array Value} {t:Nat} (hb:Y.heap[b]?=some (.cells cs t (0,0))) (ht:t≠141):vY.ownBlock≠some b:=fun e=>by
  obtain ⟨lb,cap,rfl,_,_,_,_,_,cur,hcur⟩:=hM.nl
  injection e with e
  have e2:lb=b:=e
  subst e2
  rw [hcur] at hb
  injection hb with hb
  injection hb with _ hb
  exact ht hb.symm
theorem rd_own {Y:World} {gb rb ab ob n base B1 base' m c:Nat} {a:Option Addr} {vY:Value} {row at' of D:List Nat} {ls:List (Nat × Nat × Nat)} (hM:Ms Y gb rb ab ob n base B1 vY row at' of ls) (ho:Y.ownsRow base' 3 1 (.slice a m c) m (nums D).toList) (hl:D.length=m) (hb:B1≤base'):Rd Y B1 Y.heap.size vY a m D:=by
  by_cases h0:0 < m
  · obtain ⟨g,cap,hv,h1,h2,h3,h4⟩:=row_form ho h0
    injection hv with hv1 hv2 hv3
    subst hv1
    obtain ⟨_,_,_,cur,hcur⟩:=own_blk ho
    refine ⟨hl,g,0,fun _=>⟨rfl,h2,by omega,h2,hM.not hcur (by decide)⟩,fun j x hj=>?_⟩
    have hjl:=(List.getElem?_eq_some_iff.1 hj).1
    rw [Nat.zero_add,h4 j (by omega),Array.getElem?_toList,nums_at,hj]
    rfl
  · have:D=[]:=List.length_eq_zero_iff.1 (by omega)
    exact ⟨hl,0,0,fun h=>absurd h h0,fun j x hj=>by rw [this] at hj;cases hj⟩
theorem bk_of {w3 Y:World} {gb rb ab ob n nc base B1 base3 bb c:Nat} {vs:Nat→Value} {nx:Nat→Nat→Nat} {vY:Value} {row at' of:List Nat} {ls:List (Nat × Nat × Nat)} (hM:Ms Y gb rb ab ob n base B1 vY row at' of ls) (hB:Bks w3 base3 n nc nc bb vs nx) (hb3:B1≤base3) (hK:Kp base B1 w3 Y) (hc:c < nc) (hn:n≤100000):∃ bc,vs c=.slice (some ⟨bc,0,none⟩) n n∧Bk Y B1 Y.heap.size n vY (some ⟨bc,0,none⟩) (bkTo (fun s=>nx s c) n):=by
  obtain ⟨bc,vt,e,hbc,hBw⟩:=hB.2 c hc
  have hblk:=hK.new bc _ (by omega) hBw.blk (fun cs z e2=>by injection e2 with _ e2;cases e2)
  have hlt:=(Array.getElem?_eq_some_iff.1 hblk).1
  refine ⟨bc,e,bc,0,rfl,hlt,by omega,hlt,hM.not hblk (by decide),fun z hz=>?_⟩
  obtain ⟨a',c',ev⟩:=own_form (hBw.own z hz)
  have ho:=hK.own (hBw.own z hz) hb3 (by decide)
  rw [ev] at ho
  refine ⟨a',_,c',?_,rd_own hM ho rfl hb3,Nat.le_trans (bkTo_len _ _ _) hn⟩
  rw [Nat.zero_add,cell_blk hblk,rowOf_at _ hz,ev]
end Go.Proofs.YtchaoonefiamdaaGreatDoor.L
namespace Go.Proofs.YtchaoonefiamdaaGreatDoor.L
open Go.RowKit Go.Maps
set_option linter.unusedVariables false
set_option linter.unusedSimpArgs false
def Ga (w2 Y:World) (gb rb ab ob n base B1 x:Nat) (L:List Nat) (ss:List (Nat × Nat)):Prop:=∃ vY row at' of ls,Ms Y gb rb ab ob n base B1 vY row at' of ls∧Hm.Pt n row at' of ls (fun _=>False)∧Runs n L ss x (fun s=>of[s]?.getD 0) ls.length∧Kp base B1 w2 Y
theorem rd_of {w Y:World} {gb rb ab ob n base B1 b:Nat} {vY:Value} {row at' of:List Nat} {ls:List (Nat × Nat × Nat)} (hM:Ms Y gb rb ab ob n base B1 vY row at' of ls) {L:List Nat} (hN:Nb Y b L) (hb:B1≤b) (a:Nat × Nat) (ha:a.2≤L.length):Rd Y B1 Y.heap.size vY (some ⟨b,a.1,none⟩) (a.2 - a.1) (segL L a):=by
  refine ⟨segL_len ha,b,a.1,fun _=>⟨rfl,hN.lt,hb,hN.lt,fun e=>?_⟩,fun j x hj=>?_⟩
  · obtain ⟨lb,cap,rfl,_,_,_,_,_,cur,hcur⟩:=hM.nl
    injection e with e
    have e2:lb=b:=e
    subst e2
    unfold Nb at hN
    rw [hcur] at hN
    injection hN with hN
    injection hN with _ hN
    cases hN
  · have hl:=(List.getElem?_eq_some_iff.1 hj).1
    rw [segL_len ha] at hl
    rw [segL_at L a hl] at hj
    exact hN.cell hj
theorem Kp.nb {base B1 b:Nat} {w Y:World} {L:List Nat} (h:Kp base B1 w Y) (hN:Nb w b L) (hb:B1≤b):Nb Y b L:=h.new b _ hb hN (fun cs z e=>by injection e with _ e;cases e)
def Gi (w3 Y:World) (gb rb ab ob n nc base B1 i:Nat) (nx:Nat→Nat→Nat) (O:Nat→Nat):Prop:=∃ vY row at' of ls,Ms Y gb rb ab ob n base B1 vY row at' of ls∧Hm.Pt n row at' of ls (fun _=>False)∧i≤ls.length∧Hm.Inv n nc nx (fun s=>of[s]?.getD 0) ls.length i∧Hm.Sound n nc nx O (fun s=>of[s]?.getD 0)∧(∀ s t,s < n→t < n→of[s]?.getD 0=of[t]?.getD 0→O s=O t)∧Kp base B1 w3 Y
def Gc (w5 X:World) (gb rb ab ob n nc base B1 i c:Nat) (nx:Nat→Nat→Nat) (O g0:Nat→Nat) (K0:Nat):Prop:=∃ vX row at' of ls,Ms X gb rb ab ob n base B1 vX row at' of ls∧Hm.Pt n row at' of ls (fun _=>False)∧Hm.At n nc nx g0 K0 i c (fun s=>of[s]?.getD 0) ls.length∧Hm.Inv n nc nx (fun s=>of[s]?.getD 0) ls.length i∧Hm.Sound n nc nx O (fun s=>of[s]?.getD 0)∧(∀ s t,s < n→t < n→of[s]?.getD 0=of[t]?.getD 0→O s=O t)∧Kp base B1 w5 X
set_option maxRecDepth 100000 in
set_option maxHeartbeats 8000000 in
theorem grouped_any (n nc bn on cN bo oo co:Nat) (nx:Nat→Nat→Nat) (O:Nat→Nat) (w:World) (h0:0 < n) (hn:n≤100000) (hc:nc≤100000) (hN:Nxt w n nc bn on nx) (hO:∀ s,s < n→w.cell? ⟨bo,oo+s,none⟩=some (.int .u32 (O s:Int))) :
    Calls Tryz.prog 53 #[.agg #[.slice (some ⟨bn,on,none⟩) n cN,.slice (some ⟨bo,oo,none⟩) n co]] w fun e w'=>∃ ob of,e=.returned (.slice (some ⟨ob,0,none⟩) n n)∧w.heap.size≤ob∧Nb w' ob of∧of.length=n∧(∀ s,s < n→of[s]?.getD 0 < n)∧(∀ s t,s < n→t < n→(of[s]?.getD 0=of[t]?.getD 0↔Hm.Eqv nc nx O s t))∧Only (fun _=>False) w w':=by
  have HN:Hid (Nxt w n nc bn on nx):=hN
  have HO:Hid (∀ s,s < n→w.cell? ⟨bo,oo+s,none⟩=some (.int .u32 (O s:Int))):=hO
  clear hN hO
  go_enter Tryz.func53,Tryz.ntmps53
  go_wp2_with (first | (go_at_call 69;refine (oneGroup_any n _ h0 hn).mono ?_;rintro e w1 ⟨gb,rb,ab,ob,vL,rfl,hM,ho1⟩;have hAl:(w.alloc (.cells #[.slice (some ⟨bn,on,none⟩) n cN,.slice (some ⟨bo,oo,none⟩) n co] 63)).heap.size=w.heap.size+1:=(by simp);rw [hAl] at hM;have H1:Hid (Ms w1 gb rb ab ob n (w.heap.size+1) w1.heap.size vL (List.range n) (List.range n) (List.replicate n 0) [(0,n,0)]∧Only (fun _=>False) (w.alloc (.cells #[.slice (some ⟨bn,on,none⟩) n cN,.slice (some ⟨bo,oo,none⟩) n co] 63)) w1∧w1.heap[w.heap.size]?=some (.cells #[.slice (some ⟨bn,on,none⟩) n cN,.slice (some ⟨bo,oo,none⟩) n co] 63 (0,0))):=⟨hM,ho1,(ho1.block _ (by rw [hAl];omega) (fun h=>h)).trans (heap_alloc_new w _)⟩;have p0:w1.cell? ⟨w.heap.size,0,none⟩=some (.slice (some ⟨bn,on,none⟩) n cN):=cell_blk H1.out.2.2;have p1:w1.cell? ⟨w.heap.size,1,none⟩=some (.slice (some ⟨bo,oo,none⟩) n co):=cell_blk H1.out.2.2;have lp:=World.block_lt_of_cell? w1 _ p0;have HOw1:Hid (Only (fun _=>False) w w1):=((Only.refl (fun _=>False) w).alloc _).trans ho1;clear hM ho1 hAl) | (go_at_call 70;refine (sameOut_any (some ⟨bn,on,none⟩) n cN n bo oo co O w1 h0 hn (fun s hs=>(World.cell?_of_block (a:=⟨bo,oo+s,none⟩) (HOw1.out.block bo (World.block_lt_of_cell? w _ (HO.out s hs)) (fun h=>h))).trans (HO.out s hs))).mono ?_;rintro e w2 ⟨b,v,L,ss,rfl,hb,hp,hNb,hR,hown,ho2⟩;obtain ⟨av,cv,rfl⟩:=own_form hown;obtain ⟨ml,hml⟩:∃ ml,ml=ss.length:=⟨_,rfl⟩;have H2:Hid (w1.heap.size≤b∧L.Perm (List.range n)∧Nb w2 b L∧Rns n (Vo O L) n n ss∧w2.ownsRow (b+1) 23 1 (.slice av ml cv) ml (ss.map (hdr b n))∧Only (fun _=>False) w1 w2∧ml=ss.length):=(by rw [hml];exact ⟨hb,hp,hNb,hR,hown,ho2,rfl⟩);have hmn:ml≤n:=(by rw [hml];exact hR.len);rw [← hml];clear hb hp hNb hR hown ho2 hml))
  go_loopg [17] ml (fun gh v wr=>∃ (x:Nat) (Y:World),Y=wr∧gh=ml - x∧x≤ml∧v=.int .i64 (x:Int)∧Ga w2 Y gb rb ab ob n (w.heap.size+1) w1.heap.size x L ss)
  case atStart=>exact ⟨0,_,rfl,rfl,Nat.zero_le _,rfl,vL,_,_,_,_,H1.out.1.keep H2.out.2.2.2.2.2.1 (fun _ h=>h.elim) (fun _ _ h=>h.elim),one_Pt h0,Runs.start (fun s hs=>by rw [List.getElem?_replicate,if_pos hs];rfl),Kp.refl _ _ _⟩
  case round =>
    obtain ⟨x,Y,hY,rfl,hx,rfl,hG⟩:=hrel
    subst hY
    have HG:Hid (Ga w2 Y gb rb ab ob n (w.heap.size+1) w1.heap.size x L ss):=hG
    clear hG
    by_cases hlt:x < ml
    · have t1:(x:Int) < (ml:Int):=by omega
      obtain ⟨vY,row,at',of,ls,hM,hP,hRu,hK⟩:=HG.out
      obtain ⟨a,ha⟩:∃ a,ss[x]?=some a:=⟨_,List.getElem?_eq_getElem (by have:=H2.out.2.2.2.2.2.2;omega)⟩
      have hoY:=hK.own H2.out.2.2.2.2.1 (by have:=H2.out.1;omega) (by decide)
      obtain ⟨g,cap,hv,hgl,hml,hcc⟩:=own_cells hoY (by omega)
      injection hv with hv1 hv2 hv3
      subst hv1
      have cx:Y.cell? ⟨g,x,none⟩=some (hdr b n a):=hcc x _ (by rw [List.getElem?_map,ha];rfl)
      have hNY:Nb Y b L:=hK.nb H2.out.2.2.1 H2.out.1
      have hpl:L.length=n:=by rw [H2.out.2.1.length_eq,List.length_range]
      have hseg:=H2.out.2.2.2.1.seg a (List.mem_of_getElem? ha)
      have hB:w1.heap.size≤Y.heap.size:=Nat.le_trans H2.out.2.2.2.2.2.1.size hK.size
      have HC:Hid (Calls Tryz.prog 71 #[.pointer (some ⟨gb,0,none⟩),.func (.func 94) #[] #[.pointer (some ⟨Y.heap.size,0,none⟩)]] (Y.alloc (.cells #[.slice (some ⟨b,a.1,none⟩) (a.2 - a.1) (n - a.1)] 23)) fun e w'=>e=.returned (.tuple #[])∧Ga w2 w' gb rb ab ob n (w.heap.size+1) w1.heap.size (x+1) L ss):=by
        have hNY2:Nb (Y.alloc (.cells #[.slice (some ⟨b,a.1,none⟩) (a.2 - a.1) (n - a.1)] 23)) b L:=hNY.only ((Only.refl (fun _=>False) Y).alloc _) (fun h=>h)
        have hnd:=segL_nd H2.out.2.1 a
        refine (split_row gb rb ab ob n (w.heap.size+1) w1.heap.size ls.length Y.heap.size (a.2 - a.1) (n - a.1) (some ⟨b,a.1,none⟩) vY row at' of (segL L a) ls _ (hM.alloc _) hP (by simp;omega) rfl (cell_blk (heap_alloc_new Y _)) (rd_of (w:=Y) (hM.alloc _) hNY2 H2.out.1 a (by omega)) (by omega) hnd.1 hnd.2).mono ?_
        rintro e w' ⟨he,vL',row',at'',of',ls',k1,k2,k3,k4⟩
        exact ⟨he,vL',row',at'',of',ls',k1,k2,hRu.next ha k3,(hK.alloc _).trans k4⟩
      unfold hdr at cx
      clear hoY hcc hv2 hv3 hNY hseg hM hP hRu hK ha
      go_wp2_with (first | (go_at_call 72;refine (each_any _ _ _ _).mono ?_;rintro e w' ⟨rfl,rfl⟩) | (go_at_call 71;refine Calls.mono HC.out ?_;rintro e w5 ⟨rfl,h5⟩;have H5:Hid (Ga w2 w5 gb rb ab ob n (w.heap.size+1) w1.heap.size (x+1) L ss):=h5;clear h5))
      go_roundg (ml - (x+1))
      case measure=>omega
      case rel=>exact ⟨x+1,_,rfl,rfl,by omega,by go_num,H5.out⟩
    · have t2:decide ((x:Int) < (ml:Int))=false:=decide_eq_false (by omega)
      obtain rfl:x=ml:=by omega
      obtain ⟨vY,row,at',of,ls,hM,hP,hRu,hK⟩:=HG.out
      have hxs:=H2.out.2.2.2.2.2.2
      have hDn:=(by rw [hxs] at hRu;exact hRu:Runs n L ss ss.length (fun s=>of[s]?.getD 0) ls.length).done H2.out.2.2.2.1 H2.out.2.1
      have ho12:Only (fun _=>False) w w2:=HOw1.out.trans H2.out.2.2.2.2.2.1
      have HOY:Hid (Only (fun _=>False) w Y):=⟨hK.os.trans ho12.os,hK.tape.trans ho12.tape,hK.output.trans ho12.output,Nat.le_trans ho12.size hK.size,fun g hg _=>(hK.old g (by omega) (Nat.lt_of_lt_of_le hg ho12.size)).trans (ho12.block g hg (fun h=>h))⟩
      have lw2:w.heap.size < w2.heap.size:=Nat.lt_of_lt_of_le lp H2.out.2.2.2.2.2.1.size
      have hpa:Y.heap[w.heap.size]?=some (.cells #[.slice (some ⟨bn,on,none⟩) n cN,.slice (some ⟨bo,oo,none⟩) n co] 63 (0,0)):=(hK.old _ (by omega) lw2).trans ((H2.out.2.2.2.2.2.1.block _ lp (fun h=>h)).trans H1.out.2.2)
      have y0:Y.cell? ⟨w.heap.size,0,none⟩=some (.slice (some ⟨bn,on,none⟩) n cN):=cell_blk hpa
      have y1:Y.cell? ⟨w.heap.size,1,none⟩=some (.slice (some ⟨bo,oo,none⟩) n co):=cell_blk hpa
      have lpY:=World.block_lt_of_cell? Y _ y0
      have HS:Hid (Gi Y Y gb rb ab ob n nc (w.heap.size+1) w1.heap.size 0 nx O):=⟨vY,row,at',of,ls,hM,hP,Nat.zero_le _,fun j hj=>by omega,fun s t hs ht he=>(hDn s t hs ht).2 he.out,fun s t hs ht he=>(hDn s t hs ht).1 he,Kp.refl _ _ _⟩
      have HB1:Hid (w1.heap.size≤Y.heap.size):=Nat.le_trans H2.out.2.2.2.2.2.1.size hK.size
      have HX:Hid (∀ s c,s < n→c < nc→nx s c < n):=fun s c hs hcc=>by
        obtain ⟨a,c',_,h2⟩:=HN.out s hs
        obtain ⟨_,_,_,_,h3⟩:=h2 c hcc
        exact h3
      clear hM hP hRu hK hDn ho12 hpa hxs p0 p1
      go_wp2_with (first | (go_at_call 73;refine (waysBack_any (some ⟨bo,oo,none⟩) n co n nc bn on cN nx Y h0 hn hc (HN.out.keep HOY.out)).mono ?_;rintro e w3 ⟨bb,vs,rfl,hbb,hBk,ho3⟩;have H3:Hid (Y.heap.size≤bb∧Bks w3 Y.heap.size n nc nc bb vs nx∧Only (fun _=>False) Y w3):=⟨hbb,hBk,ho3⟩;clear hbb hBk ho3))
      go_loopg [7] n (fun gh v wr=>∃ (i:Nat) (Z:World),Z=wr∧gh=n - i∧i≤n∧v=.int .i64 (i:Int)∧Gi w3 Z gb rb ab ob n nc (w.heap.size+1) w1.heap.size i nx O)
      case atStart =>
        obtain ⟨vY,row,at',of,ls,h1,h2,h3,h4,h5,h6,h7⟩:=HS.out
        exact ⟨0,_,rfl,rfl,Nat.zero_le _,rfl,vY,row,at',of,ls,h1.keep H3.out.2.2 (fun _ h=>h.elim) (fun _ _ h=>h.elim),h2,h3,h4,h5,h6,Kp.refl _ _ _⟩
      case round =>
        obtain ⟨i,Z,hZ,rfl,hi,rfl,hG⟩:=hrel
        subst hZ
        obtain ⟨vZ,row,at',of,ls,hM,hP,hil,hI,hSo,hOu,hK⟩:=hG
        obtain ⟨lb,cap,rfl,hlb,hlz,hlc,hcm,hcell,_⟩:=hM.nl
        obtain ⟨K,hKK⟩:∃ K,K=ls.length:=⟨_,rfl⟩
        have hG:=hM.G
        rw [← hKK] at hG hlc hcell hil
        have hkn:=hM.kn
        have z0:Z.cell? ⟨gb,0,none⟩=some (.slice (some ⟨rb,0,none⟩) n n):=cell_blk hG
        have z2:Z.cell? ⟨gb,2,none⟩=some (.slice (some ⟨ob,0,none⟩) n n):=cell_blk hG
        have z3:Z.cell? ⟨gb,3,none⟩=some (.slice (some ⟨lb,0,none⟩) K cap):=cell_blk hG
        have lgb:=hG.lt
        have HZ:Hid (Ms Z gb rb ab ob n (w.heap.size+1) w1.heap.size (.slice (some ⟨lb,0,none⟩) ls.length cap) row at' of ls∧Hm.Pt n row at' of ls (fun _=>False)∧Hm.Inv n nc nx (fun s=>of[s]?.getD 0) ls.length i∧Hm.Sound n nc nx O (fun s=>of[s]?.getD 0)∧(∀ s t,s < n→t < n→of[s]?.getD 0=of[t]?.getD 0→O s=O t)∧Kp (w.heap.size+1) w1.heap.size w3 Z∧K=ls.length):=⟨hM,hP,hI,hSo,hOu,hK,hKK⟩
        clear hM hP hI hSo hOu hK hG
        by_cases hlt2:i < K
        · have t3:(i:Int) < (K:Int):=by omega
          obtain ⟨⟨f,t,d⟩,hx3⟩:∃ y,ls[i]?=some y:=⟨_,List.getElem?_eq_getElem (by omega)⟩
          have hd0:=Pt.zero HZ.out.2.1 hx3
          subst hd0
          obtain ⟨g0,g1,g2⟩:=gcs_at ls i f t 0 hx3
          have c0:Z.cell? ⟨lb,i*3,none⟩=some (.int .i64 (f:Int)):=(hcell _ (by omega)).trans g0
          have c1:Z.cell? ⟨lb,i*3+1,none⟩=some (.int .i64 (t:Int)):=(hcell _ (by omega)).trans g1
          have c2:Z.cell? ⟨lb,i*3+2,none⟩=some (.int .i64 0):=(hcell _ (by omega)).trans g2
          obtain ⟨hs1,hs2,hs3,_⟩:=HZ.out.2.1.seg i f t 0 hx3
          have HQ:Hid _:=grp_states HZ.out.2.1 hx3
          have HC1:Hid (Calls Tryz.prog 74 #[.pointer (some ⟨gb,0,none⟩),.agg #[.int .i64 (f:Int),.int .i64 (t:Int),.int .i64 0]] Z fun y w'=>y=.returned (.slice (some ⟨rb,f,none⟩) (t - f) (n - f))∧Only (fun _=>False) Z w'):=states_any gb rb ab ob n f t (t - f) 0 _ Z HZ.out.1.G (by omega) hs2 (by omega) (by omega)
          have HCE:Hid (∀ w4,Only (fun _=>False) Z w4→∀ (j x:Nat),(segL row (f,t))[j]?=some x→w4.cell? ⟨rb,f+j,none⟩=some (.int .i64 (x:Int))):=fun w4 ho j x hj=>by
            have hl:=(List.getElem?_eq_some_iff.1 hj).1
            rw [HQ.out.2.1] at hl
            rw [segL_at row (f,t) hl] at hj
            exact (HZ.out.1.r.only ho (fun h=>h)).cell hj
          clear g0 g1 g2 hcell hx3
          go_wp2_with (first | (go_at_call 74;refine Calls.mono HC1.out ?_;rintro e w4 ⟨rfl,ho4⟩;have HO4:Hid (Only (fun _=>False) Z w4):=ho4;clear ho4) | (go_at_call 25;refine (clone_any rb f (t - f) (n - f) (segL row (f,t)) w4 (by omega) (by omega) HQ.out.2.1 (HCE.out w4 HO4.out)).mono ?_;rintro e w5 ⟨gg,cg,rfl,hown5,ho5⟩;have H5:Hid (w5.ownsRow w4.heap.size 3 1 (.slice (some ⟨gg,0,none⟩) (t - f) cg) (t - f) (nums (segL row (f,t))).toList∧Only (fun _=>False) Z w5):=⟨hown5,HO4.out.trans ho5⟩;clear hown5 ho5))
          have hBZ:w1.heap.size≤Z.heap.size:=Nat.le_trans (Nat.le_trans HB1.out H3.out.2.2.size) HZ.out.2.2.2.2.2.1.size
          have HK5:Hid (Kp (w.heap.size+1) w1.heap.size w3 w5):=HZ.out.2.2.2.2.2.1.trans (Kp.of H5.out.2 (fun _ h=>h.elim) (fun _ _ h=>h.elim))
          go_loopg [49] nc (fun gh v wr=>∃ (c:Nat) (X:World),X=wr∧gh=nc - c∧c≤nc∧v=.int .i64 (c:Int)∧Gc w5 X gb rb ab ob n nc (w.heap.size+1) w1.heap.size i c nx O (fun s=>of[s]?.getD 0) ls.length)
          case atStart=>exact ⟨0,_,rfl,rfl,Nat.zero_le _,rfl,_,row,at',of,ls,HZ.out.1.keep H5.out.2 (fun _ h=>h.elim) (fun _ _ h=>h.elim),HZ.out.2.1,Hm.At.start _ _ _,HZ.out.2.2.1,HZ.out.2.2.2.1,HZ.out.2.2.2.2.1,Kp.refl _ _ _⟩
          case round =>
            obtain ⟨c,X,hX,rfl,hcn,rfl,vX,rowX,atX,ofX,lsX,hMX,hPX,hAt,hIX,hSX,hOX,hKX⟩:=hrel
            subst hX
            have HA:Hid (Hm.At n nc nx (fun s=>of[s]?.getD 0) ls.length i c (fun s=>ofX[s]?.getD 0) lsX.length∧Ms X gb rb ab ob n (w.heap.size+1) w1.heap.size vX rowX atX ofX lsX∧Hm.Pt n rowX atX ofX lsX (fun _=>False)∧Hm.Inv n nc nx (fun s=>ofX[s]?.getD 0) lsX.length i∧Hm.Sound n nc nx O (fun s=>ofX[s]?.getD 0)∧(∀ s t,s < n→t < n→ofX[s]?.getD 0=ofX[t]?.getD 0→O s=O t)∧Kp (w.heap.size+1) w1.heap.size w5 X):=⟨hAt,hMX,hPX,hIX,hSX,hOX,hKX⟩
            clear hAt hMX hPX hIX hSX hOX hKX
            by_cases hlt3:c < nc
            · have t5:(c:Int) < (nc:Int):=by omega
              obtain ⟨hAt,hMX,hPX,hIX,hSX,hOX,hKX⟩:=HA.out
              have hK3:=HK5.out.trans hKX
              have hbb:X.heap[bb]?=some (.cells (rowOf nc vs) 60 (0,0)):=hK3.new bb _ (Nat.le_trans HB1.out H3.out.1) H3.out.2.1.1 (fun cs z e=>by injection e with _ e;cases e)
              obtain ⟨bc,hvc,_⟩:=bk_of hMX H3.out.2.1 HB1.out hK3 hlt3 hn
              have cb:X.cell? ⟨bb,c,none⟩=some (.slice (some ⟨bc,0,none⟩) n n):=by rw [cell_blk hbb,rowOf_at _ hlt3,hvc]
              have lbb:=World.block_lt_of_cell? X _ cb
              have hBX:w1.heap.size≤X.heap.size:=Nat.le_trans (Nat.le_trans hBZ H5.out.2.size) hKX.size
              have HC:Hid (Calls Tryz.prog 71 #[.pointer (some ⟨gb,0,none⟩),.func (.func 95) #[] #[.pointer (some ⟨X.heap.size+1,0,none⟩),.pointer (some ⟨X.heap.size,0,none⟩)]] ((X.alloc (.cells #[.slice (some ⟨bc,0,none⟩) n n] 60)).alloc (.cells #[.slice (some ⟨gg,0,none⟩) (t - f) cg] 23)) fun e w'=>e=.returned (.tuple #[])∧Gc w5 w' gb rb ab ob n nc (w.heap.size+1) w1.heap.size i (c+1) nx O (fun s=>of[s]?.getD 0) ls.length):=by
                obtain ⟨e1,e2,e3,e4⟩:=two_at X (.cells #[.slice (some ⟨bc,0,none⟩) n n] 60) (.cells #[.slice (some ⟨gg,0,none⟩) (t - f) cg] 23)
                have hM':=(hMX.alloc (.cells #[.slice (some ⟨bc,0,none⟩) n n] 60)).alloc (.cells #[.slice (some ⟨gg,0,none⟩) (t - f) cg] 23)
                have hK5:=(hKX.alloc (.cells #[.slice (some ⟨bc,0,none⟩) n n] 60)).alloc (.cells #[.slice (some ⟨gg,0,none⟩) (t - f) cg] 23)
                obtain ⟨bc',hvc',hBk⟩:=bk_of hM' H3.out.2.1 HB1.out (HK5.out.trans hK5) hlt3 hn
                rw [hvc] at hvc'
                injection hvc' with hvc'
                injection hvc' with hvc'
                injection hvc' with hvc'
                subst hvc'
                have hl4:w1.heap.size≤w4.heap.size:=Nat.le_trans hBZ HO4.out.size
                have hR:=rd_own hM' (hK5.own H5.out.1 hl4 (by decide)) HQ.out.2.1 hl4
                have hGn:∀ x∈segL row (f,t),x < n:=HQ.out.2.2.1
                have hcg:∀ s,s < n→(s∈(segL row (f,t)).flatMap (bkTo (fun s=>nx s c) n)↔of[nx s c]?.getD 0=i):=fun s hs=>by
                  rw [mem_back]
                  have:=HQ.out.2.2.2 (nx s c) (HX.out s c hs hlt3)
                  exact ⟨fun h=>this.1 h.2,fun h=>⟨hs,this.2 h⟩⟩
                refine (split_back gb rb ab ob n (w.heap.size+1) w1.heap.size lsX.length (X.heap.size+1) X.heap.size n n (t - f) cg (some ⟨bc,0,none⟩) (some ⟨gg,0,none⟩) (bkTo (fun s=>nx s c) n) vX rowX atX ofX (segL row (f,t)) lsX _ hM' hPX (by omega) rfl hR hBk (cell_blk e2) (cell_blk e1) rfl hBX (hM'.not e1 (by decide)) (by omega) (nd_back HQ.out.1) (fun x hx=>(mem_back.1 hx).1) hGn).mono ?_
                rintro e w' ⟨he,vL',row',at'',of',ls',k1,k2,k3,k4⟩
                have k3':=Split.congr (D':=fun s=>of[nx s c]?.getD 0=i) k3 hcg
                refine ⟨he,vL',row',at'',of',ls',k1,k2,hAt.next k3',hIX.split HX.out (by have:=hAt.le;omega) k3',hSX.split k3' (fun s t' hs ht he=>?_),fun s t' hs ht he=>hOX s t' hs ht ((k3'.iff s t' hs ht).1 he).1,hK5.trans k4⟩
                have:=HZ.out.2.2.2.1 (nx s c) (nx t' c) (HX.out s c hs hlt3) (HX.out t' c ht hlt3) (he.step hlt3)
                show of[nx s c]?.getD 0=i↔of[nx t' c]?.getD 0=i
                have e5:of[nx s c]?.getD 0=of[nx t' c]?.getD 0:=this
                rw [e5]
              clear hAt hMX hPX hIX hSX hOX hKX hK3 hbb hvc
              go_wp2_with (first | (go_at_call 75;refine (leading_any _ _ _ _ _ _ _).mono ?_;rintro e w' ⟨rfl,rfl⟩) | (go_at_call 71;refine Calls.mono HC.out ?_;rintro e w7 ⟨rfl,h7⟩;have H7:Hid (Gc w5 w7 gb rb ab ob n nc (w.heap.size+1) w1.heap.size i (c+1) nx O (fun s=>of[s]?.getD 0) ls.length):=h7;clear h7))
              go_roundg (nc - (c+1))
              case measure=>omega
              case rel=>exact ⟨c+1,_,rfl,rfl,by omega,by go_num,H7.out⟩
            · have t5:decide ((c:Int) < (nc:Int))=false:=decide_eq_false (by omega)
              have hcc:c=nc:=by omega
              go_wp2_with fail
              go_roundg (n - (i+1))
              case measure=>omega
              case rel =>
                obtain ⟨hAt,hMX,hPX,hIX,hSX,hOX,hKX⟩:=HA.out
                have hKl:=HZ.out.2.2.2.2.2.2
                have hle:=hAt.le
                rw [hcc] at hAt
                exact ⟨i+1,_,rfl,rfl,by omega,by go_num,vX,rowX,atX,ofX,lsX,hMX,hPX,by omega,hAt.done HX.out (by omega) hIX,hSX,hOX,HK5.out.trans hKX⟩
        · have t3:decide ((i:Int) < (K:Int))=false:=decide_eq_false (by omega)
          have hiK:i=K:=by omega
          go_wp2_with fail
          go_ret
          obtain ⟨h1,h2,h3,h4,h5,h6,h7⟩:=HZ.out
          have hlt:∀ s,s < n→of[s]?.getD 0 < ls.length:=fun s hs=>by
            obtain ⟨g,f,t,d,p,q1,q2,_⟩:=h2.find hs
            rw [q1]
            exact (List.getElem?_eq_some_iff.1 q2).1
          have h3':Hm.Inv n nc nx (fun s=>of[s]?.getD 0) ls.length ls.length:=by have e:=hiK.trans h7;rw [e] at h3;exact h3
          refine ⟨ob,of,rfl,by have:=h1.lo;omega,h1.o,h2.ol,fun s hs=>by have:=hlt s hs;omega,fun s t hs ht=>⟨fun e wd hwd=>Hm.done HX.out hlt h3' h5 wd hwd s t hs ht e,fun e=>h4 s t hs ht e⟩,?_⟩
          have o3:=HOY.out.trans H3.out.2.2
          exact ⟨h6.os.trans o3.os,h6.tape.trans o3.tape,h6.output.trans o3.output,Nat.le_trans o3.size h6.size,fun g hg _=>(h6.old g (by omega) (Nat.lt_of_lt_of_le hg o3.size)).trans (o3.block g hg (fun h=>h))⟩
end Go.Proofs.YtchaoonefiamdaaGreatDoor.L
namespace Go.Proofs.YtchaoonefiamdaaGreatDoor.L
open Go.RowKit Go.Maps
set_option linter.unusedVariables false
set_option linter.unusedSimpArgs false
theorem Ra.low {W:World} {lo lo':Nat} {v:Value} {nx:List (List Nat)} {o:List Nat} (h:Ra W lo v nx o) (hl:lo'≤lo):Ra W lo' v nx o:=by
  obtain ⟨vX,vO,rows,h1,h2,h3,h4,h5⟩:=h
  exact ⟨vX,vO,rows,h1,h2,own_base h3 hl,fun i r L hr hL=>own_base (h4 i r L hr hL) hl,own_base h5 hl⟩
theorem Ra.stay {S:Nat→Prop} {w w':World} {lo:Nat} {v:Value} {nx:List (List Nat)} {o:List Nat} (h:Ra w lo v nx o) (ho:Only S w w') (hS:∀ b,S b→b < lo):Ra w' lo v nx o:=by
  obtain ⟨vX,vO,rows,h1,h2,h3,h4,h5⟩:=h
  exact ⟨vX,vO,rows,h1,h2,own_stay h3 ho (fun q hq hs=>by have:=(own_own h3 hq).1;have:=hS q hs;omega),fun i r L hr hL=>own_stay (h4 i r L hr hL) ho (fun q hq hs=>by have:=(own_own (h4 i r L hr hL) hq).1;have:=hS q hs;omega),own_stay h5 ho (fun q hq hs=>by have:=(own_own h5 hq).1;have:=hS q hs;omega)⟩
def mkP (n nc:Nat) (nx:Nat→Nat→Nat) (O:Nat→Nat) (w:World) (e:Ending) (w':World):Prop:=∃ v rows outs r,e=.returned (.tuple #[v,.int .i64 0])∧Ra w' w.heap.size v rows outs∧Hm.Lst n nc nx O rows outs r∧Only (fun _=>False) w w'
set_option maxRecDepth 100000 in
set_option maxHeartbeats 4000000 in
theorem make_any (n nc bn on cN bo oo co:Nat) (nx:Nat→Nat→Nat) (O:Nat→Nat) (w:World) (h0:0 < n) (hn:n≤100000) (hc:nc≤100000) (hN:Nxt w n nc bn on nx) (hO:∀ s,s < n→w.cell? ⟨bo,oo+s,none⟩=some (.int .u32 (O s:Int))) :
    Calls Tryz.prog 34 #[.agg #[.slice (some ⟨bn,on,none⟩) n cN,.slice (some ⟨bo,oo,none⟩) n co]] w (mkP n nc nx O w):=by
  have HN:Hid (Nxt w n nc bn on nx):=hN
  have HO:Hid (∀ s,s < n→w.cell? ⟨bo,oo+s,none⟩=some (.int .u32 (O s:Int))):=hO
  clear hN hO
  have HT:Hid _:=two_at w (.cells #[.slice (some ⟨bn,on,none⟩) n cN,.slice (some ⟨bo,oo,none⟩) n co] 63) (.cells #[.slice none 0 0,.slice none 0 0] 63)
  go_enter Tryz.func34,Tryz.ntmps34
  go_wp2_with (go_at_call 51;refine (check_true _ co n nc bn on cN nx _ h0 hn hc (HN.out.keep HT.out.2.2.1)).mono ?_;rintro e w1 ⟨rfl,ho1⟩;have HO1:Hid (Only (fun _=>False) w w1∧w1.heap[w.heap.size]?=some (.cells #[.slice (some ⟨bn,on,none⟩) n cN,.slice (some ⟨bo,oo,none⟩) n co] 63 (0,0))∧w1.heap[w.heap.size+1]?=some (.cells #[.slice none 0 0,.slice none 0 0] 63 (0,0))):=⟨HT.out.2.2.1.trans ho1,(ho1.block w.heap.size (by rw [HT.out.2.2.2];omega) (fun h=>h)).trans HT.out.1,(ho1.block (w.heap.size+1) (by rw [HT.out.2.2.2];omega) (fun h=>h)).trans HT.out.2.1⟩;clear ho1)
  have lw1:w.heap.size+1 < w1.heap.size:=(Array.getElem?_eq_some_iff.1 HO1.out.2.2).1
  have lw0:w.heap.size < w1.heap.size:=by omega
  have HK:Hid (∀ W,Only (fun b=>b=w.heap.size+1) w1 W→W.cell? ⟨w.heap.size,0,none⟩=some (.slice (some ⟨bn,on,none⟩) n cN)∧W.cell? ⟨w.heap.size,1,none⟩=some (.slice (some ⟨bo,oo,none⟩) n co)):=fun W ho=>by
    have:=(ho.block _ lw0 (by omega)).trans HO1.out.2.1
    exact ⟨cell_blk this,cell_blk this⟩
  have HR:Hid (∀ W,Only (fun _=>False) w1 W→W.heap[w.heap.size+1]?=some (.cells #[.slice none 0 0,.slice none 0 0] 63 (0,0))):=fun W ho=>(ho.block _ lw1 (fun h=>h)).trans HO1.out.2.2
  go_region_held3 (fun w'=>w'.cell? ⟨w.heap.size,0,none⟩=some (.slice (some ⟨bn,on,none⟩) n cN)∧w'.cell? ⟨w.heap.size,1,none⟩=some (.slice (some ⟨bo,oo,none⟩) n co)) ((first | exact HK.out _ ((Only.refl (fun b=>b=w.heap.size+1) w1).drew) | exact HK.out _ (((ho3.mono (S':=fun b=>b=w.heap.size+1) (fun _ h=>h.elim)).setCell (p:=⟨w.heap.size+1,0,none⟩) rfl _).setCell (p:=⟨w.heap.size+1,1,none⟩) rfl _) | exact HK.out _ (ho3.mono (S':=fun b=>b=w.heap.size+1) (fun _ h=>h.elim)) | exact HK.out _ (ho2.mono (S':=fun b=>b=w.heap.size+1) (fun _ h=>h.elim)))) ((first | (go_at_call 52;have hgd:=ho2;refine (numbered_any n nc bn on cN bo oo co ob nx O of w2 h0 hn hc (HN.out.keep (HO1.out.1.trans ho2)) (fun s hs=>keepC (HO1.out.1.trans ho2) (HO.out s hs)) HG.out.1 HG.out.2.1 HG.out.2.2.1 HG.out.2.2.2).mono ?_;clear hgd;rintro e w3 ⟨v3,rows,outs,r,rfl,hRa,hL,ho23⟩;obtain ⟨vX,vO,rws,rfl,hq1,hq2,hq3,hq4⟩:=hRa;obtain ⟨aX,kX,rfl⟩:=own_form hq2;obtain ⟨aO,kO,rfl⟩:=own_form hq4;have ho3:Only (fun _=>False) w1 w3:=ho2.trans ho23;have H3:Hid (Ra w3 w2.heap.size (.agg #[.slice aX rws.length kX,.slice aO outs.length kO]) rows outs∧Hm.Lst n nc nx O rows outs r∧Only (fun _=>False) w1 w3):=⟨⟨_,_,rws,rfl,hq1,hq2,hq3,hq4⟩,hL,ho3⟩;have b3:=HR.out _ ho3;have d0:w3.cell? ⟨w.heap.size+1,0,none⟩=some (.slice none 0 0):=cell_blk b3;have d1:w3.cell? ⟨w.heap.size+1,1,none⟩=some (.slice none 0 0):=cell_blk b3;have f3:∀ y,w3.frozen? ⟨w.heap.size+1,y,none⟩=false:=(fun y=>fz_blk b3 y);have l3:w.heap.size+1 < w3.heap.size:=World.block_lt_of_cell? w3 _ d0;clear hq1 hq2 hq3 hq4 hL ho23 b3) | (go_at_call 53;refine (grouped_any n nc bn on cN bo oo co nx O w1.drew h0 hn hc (HN.out.keep HO1.out.1.drew) (fun s hs=>keepC HO1.out.1.drew (HO.out s hs))).mono ?_;rintro e w2 ⟨ob,of,rfl,hob,hNb,hol,hlt,hEq,ho2'⟩;have ho2:Only (fun _=>False) w1 w2:=((Only.refl (fun _=>False) w1).drew).trans ho2';have HG:Hid (Nb w2 ob of∧of.length=n∧(∀ s,s < n→of[s]?.getD 0 < n)∧(∀ s t,s < n→t < n→(of[s]?.getD 0=of[t]?.getD 0↔Hm.Eqv nc nx O s t))):=⟨hNb,hol,hlt,hEq⟩;clear hob hNb hol hlt hEq ho2')))
  all_goals
    go_wp2_with fail
    have hR3:=HR.out _ H3.out.2.2
    refine bodyPost_ret (v:=.tuple #[.agg #[.slice aX rws.length kX,.slice aO outs.length kO],.int .i64 0]) (results_row1 (p:=2) (u:=3) rfl _ _ (w.heap.size+1) 63 #[.slice aX rws.length kX,.slice aO outs.length kO] (0,0) _ rfl (heap_setCell_at (heap_setCell_at hR3 _) _) Tryz.underlying63 rfl sz27 rfl) rfl ?_
    have o1:=((Only.refl (fun b=>b=w.heap.size+1) w3).setCell (p:=⟨w.heap.size+1,0,none⟩) rfl (.slice aX rws.length kX)).setCell (p:=⟨w.heap.size+1,1,none⟩) rfl (.slice aO outs.length kO)
    have hs2:w1.heap.size≤w2.heap.size:=ho2.size
    refine ⟨_,rows,outs,r,rfl,(H3.out.1.stay o1 (fun b hb=>by omega)).low (by omega),H3.out.2.1,?_⟩
    exact (((HO1.out.1.trans H3.out.2.2).mono (S':=fun b=>b=w.heap.size+1) (fun _ h=>h.elim)).trans o1).old (fun g hg=>Or.inl (by omega))
end Go.Proofs.YtchaoonefiamdaaGreatDoor.L
