/- Sg5 Sg2 Sg7 Sg3 -/
import Derived.Test.YtchaoonefiamdaaGreatDoorZ21
import Derived.Test.YtchaoonefiamdaaGreatDoorZ28
import Derived.Test.YtchaoonefiamdaaGreatDoorZ41
import Derived.Test.YtchaoonefiamdaaGreatDoorZ26
import Derived.Laws.BitsAllLaws
import Derived.Deep.RegionHeld3
namespace Go.Proofs.YtchaoonefiamdaaGreatDoor
open Go.RowKit Go.Maps
set_option linter.unusedVariables false
set_option linter.unusedSimpArgs false
open Rl (Ex)
theorem only_L {S:Nat→Prop} {w w':World} (h:L.Only S w w'):Only S w w':=⟨h.os,h.tape,h.output,h.size,h.block⟩
theorem L_only {S:Nat→Prop} {w w':World} (h:Only S w w'):L.Only S w w':=⟨h.os,h.tape,h.output,h.size,h.block⟩
def dX (nx:List (List Nat)) (s k:Nat):Nat:=(nx[s]?.getD [])[k]?.getD 0
def oX (o:List Nat) (s:Nat):Nat:=o[s]?.getD 0
theorem make_form {es:List Ex} {cl:Nat} {nx:List (List Nat)} {o:List Nat} (h:Au.make es (cl:Int)=.ok (nx,o)):0 < nx.length∧nx.length≤300∧o.length=nx.length∧cl≤24∧∀ s k,s < nx.length→k < cl→dX nx s k < nx.length:=by
  obtain ⟨h1,h2,h3,nds,p,Fd,h4,h5,h6,h7,h8,h9⟩:=Au.make_says es cl nx o h
  have hF:=(List.getElem?_eq_some_iff.1 h5).1
  refine ⟨by omega,by omega,by omega,by omega,fun s k hs hk=>?_⟩
  obtain ⟨S,w,e1,e2,e3,e4,e5⟩:=h9 s (by omega)
  obtain ⟨t,f1,f2⟩:=e5 k (by simpa using hk)
  have ht:=(List.getElem?_eq_some_iff.1 f2).1
  unfold dX
  rw [e2]
  show w[k]?.getD 0 < _
  rw [f1]
  show t < _
  omega
theorem aut_nxt {W:World} {lo cl:Nat} {v:Value} {nx:List (List Nat)} {o:List Nat} (h:Aut W lo cl v nx o) (h0:0 < nx.length) (ho:o.length=nx.length) (hw:∀ s k,s < nx.length→k < cl→dX nx s k < nx.length) :
    ∃ bn cN bo co,v=.agg #[.slice (some ⟨bn,0,none⟩) nx.length cN,.slice (some ⟨bo,0,none⟩) nx.length co]∧L.Nxt W nx.length cl bn 0 (dX nx)∧∀ s,s < nx.length→W.cell? ⟨bo,0+s,none⟩=some (.int .u32 (oX o s:Int)):=by
  obtain ⟨rows,vN,vO,rfl,rfl,h3,h4,h5⟩:=h
  have hrl:0 < rows.length:=by simpa using h0
  obtain ⟨g,cap,rfl,hg,hm,hc⟩:=L.own_cells h3 hrl
  obtain ⟨g',cap',rfl,hg',hm',hc'⟩:=L.own_cells h4 (by omega)
  refine ⟨g,cap,g',cap',by rw [ho,List.length_map],fun s hs=>?_,fun s hs=>?_⟩
  · rw [List.length_map] at hs
    obtain ⟨r,hr⟩:∃ r,rows[s]?=some r:=⟨_,List.getElem?_eq_getElem hs⟩
    obtain ⟨b1,b2,b3⟩:=h5 r (List.mem_of_getElem? hr)
    refine ⟨some ⟨r.1,0,none⟩,cl,?_,fun k hk=>⟨r.1,0,rfl,?_,hw s k (by rw [List.length_map];exact hs) hk⟩⟩
    · rw [Nat.zero_add]
      exact hc s (rowV cl r) (by rw [List.getElem?_map,hr];rfl)
    · rw [Nat.zero_add]
      refine (cell_of_row _ _ _ _ _ _ b2).trans ?_
      rw [wcs_at _ _ _ hk]
      unfold dX
      rw [List.getElem?_map,hr]
      rfl
  · rw [Nat.zero_add]
    obtain ⟨x,hx⟩:∃ x,o[s]?=some x:=⟨_,List.getElem?_eq_getElem (by omega)⟩
    unfold oX
    rw [hx]
    exact hc' s (u32V x) (by rw [List.getElem?_map,hx];rfl)
theorem Lex.only0 {w w':World} {F:Nat→Prop} {es:List Ex} {a:Option Addr} {c:Nat} (h:Lex w F es a c) (ho:Only (fun _=>False) w w'):Lex w' F es a c:=⟨h.1,fun hn=>by
  obtain ⟨b,off,e,hb,ht⟩:=h.2 hn
  exact ⟨b,off,e,hb,Tes.keep (Kp.only ho (fun _ _ h=>h)) (fun _ h=>h) _ _ _ hb ht⟩⟩
def lfP (w:World) (cl:Nat) (nx:List (List Nat)) (o:List Nat) (e:Ending) (w':World):Prop:=∃ v rows outs r,e=.returned (.tuple #[v,.int .i64 0])∧L.Ra w' w.heap.size v rows outs∧L.Hm.Lst nx.length cl (dX nx) (oX o) rows outs r∧Only (fun _=>False) w w'
set_option maxRecDepth 100000 in
set_option maxHeartbeats 4000000 in
theorem leastOf_any (F:Nat→Prop) (es:List Ex) (a:Option Addr) (c cl:Nat) (nx:List (List Nat)) (o:List Nat) (w:World) (hL:Lex w F es a c) (hF:∀ b,F b→b < w.heap.size) (hD:∀ e∈es,Au.dp e≤1000000) (hm:Au.make es (cl:Int)=.ok (nx,o)) :
    Calls Tryz.prog 18 #[.slice a es.length c,.int .i64 (cl:Int)] w (lfP w cl nx o):=by
  have HMK:=fun (w:World) (h:Lex w F es a c) (hF:∀ b,F b→b < w.heap.size)=>make_all F es a c (cl:Int) w h hF hD
  rw [hm] at HMK
  have HK:Hid _:=HMK
  have HL:Hid (Lex w F es a c):=hL
  have HF:Hid (∀ b,F b→b < w.heap.size):=hF
  have HFm:Hid _:=make_form hm
  clear hL hF hD hm HMK
  have ho0:Only (fun _=>False) w (w.alloc (.cells #[.slice none 0 0,.slice none 0 0] 63)):=(Only.refl _ _).alloc _
  have HO0:Hid (Only (fun _=>False) w (w.alloc (.cells #[.slice none 0 0,.slice none 0 0] 63))):=ho0
  have HB0:Hid ((w.alloc (.cells #[.slice none 0 0,.slice none 0 0] 63)).heap[w.heap.size]?=some (.cells #[.slice none 0 0,.slice none 0 0] 63 (0,0))):=heap_alloc_new w _
  clear ho0
  go_enter Tryz.func18,Tryz.ntmps18
  go_wp2_with (first | (go_at_call 19;refine (HK.out _ (HL.out.only0 HO0.out) (fun b hb=>Nat.lt_of_lt_of_le (HF.out b hb) HO0.out.size)).mono ?_;rintro e w1 ⟨⟨v,rfl,hA⟩,ho1⟩;have hA:Aut w1 _ cl v nx o:=hA;obtain ⟨bn,cN,bo,co,rfl,hN,hO⟩:=aut_nxt hA HFm.out.1 HFm.out.2.2.1 HFm.out.2.2.2.2;have HN1:Hid _:=hN;have HO1:Hid _:=hO;have H1:Hid (Only (fun _=>False) w w1∧w1.heap[w.heap.size]?=some (.cells #[.slice none 0 0,.slice none 0 0] 63 (0,0))):=⟨HO0.out.trans ho1,(ho1.block _ (Array.getElem?_eq_some_iff.1 HB0.out).1 (fun h=>h)).trans HB0.out⟩;clear hA hN hO ho1) | (go_at_call 34;refine (L.make_any nx.length cl bn 0 cN bo 0 co (dX nx) (oX o) _ HFm.out.1 (by have:=HFm.out.2.1;omega) (by have:=HFm.out.2.2.2.1;omega) (L.Nxt.keep HN1.out ((L.Only.refl (fun _=>False) w1).alloc _)) (fun s hs=>L.keepC ((L.Only.refl (fun _=>False) w1).alloc _) (HO1.out s hs))).mono ?_;rintro e w3 ⟨v3,rows,outs,r,rfl,hRa,hLst,ho3⟩;obtain ⟨vX,vO,rws,rfl,hrl,hX,hrw,hOo⟩:=hRa;obtain ⟨aX,kX,rfl⟩:=L.own_form hX;obtain ⟨aO,kO,rfl⟩:=L.own_form hOo;have H3:Hid (L.Ra w3 (w1.alloc (.cells #[.slice (some ⟨bn,0,none⟩) nx.length cN,.slice (some ⟨bo,0,none⟩) nx.length co] 63)).heap.size (.agg #[.slice aX rws.length kX,.slice aO outs.length kO]) rows outs∧L.Hm.Lst nx.length cl (dX nx) (oX o) rows outs r∧Only (fun _=>False) w1 w3):=⟨⟨_,_,rws,rfl,hrl,hX,hrw,hOo⟩,hLst,((Only.refl (fun _=>False) w1).alloc _).trans (only_L ho3)⟩;have hR3:w3.heap[w.heap.size]?=some (.cells #[.slice none 0 0,.slice none 0 0] 63 (0,0)):=(H3.out.2.2.block _ (Array.getElem?_eq_some_iff.1 H1.out.2).1 (fun h=>h)).trans H1.out.2;have HR3:Hid (w3.heap[w.heap.size]?=some (.cells #[.slice none 0 0,.slice none 0 0] 63 (0,0))):=hR3;have z0:w3.cell? ⟨w.heap.size,0,none⟩=some (.slice none 0 0):=cell_blk hR3;have z1:w3.cell? ⟨w.heap.size,1,none⟩=some (.slice none 0 0):=cell_blk hR3;have zf:∀ x,w3.frozen? ⟨w.heap.size,x,none⟩=false:=fun x=>fz_blk hR3 x;have zl:w.heap.size < w3.heap.size:=(Array.getElem?_eq_some_iff.1 hR3).1;clear hrl hX hrw hOo hLst ho3 hR3))
  refine bodyPost_ret (v:=.tuple #[.agg #[.slice aX rws.length kX,.slice aO outs.length kO],.int .i64 0]) (L.results_row1 (p:=4) (u:=5) rfl _ _ w.heap.size 63 #[.slice aX rws.length kX,.slice aO outs.length kO] (0,0) _ rfl (heap_setCell_at (heap_setCell_at HR3.out _) _) Tryz.underlying63 rfl L.sz27 rfl) rfl ?_
  have o1:=((L.Only.refl (fun b=>b=w.heap.size) w3).setCell (p:=⟨w.heap.size,0,none⟩) rfl (.slice aX rws.length kX)).setCell (p:=⟨w.heap.size,1,none⟩) rfl (.slice aO outs.length kO)
  have hs1:w.heap.size≤w1.heap.size:=H1.out.1.size
  have hl1:=(Array.getElem?_eq_some_iff.1 H1.out.2).1
  refine ⟨_,rows,outs,r,rfl,(H3.out.1.stay o1 (fun b hb=>by simp;omega)).low (by simp;omega),H3.out.2.1,?_⟩
  exact (((H1.out.1.trans H3.out.2.2).mono (S':=fun b=>b=w.heap.size) (fun _ h=>h.elim)).trans (only_L o1)).old (fun g hg=>Or.inl (by omega))
end Go.Proofs.YtchaoonefiamdaaGreatDoor
namespace Go.Proofs.YtchaoonefiamdaaGreatDoor
open Go.RowKit Go.Maps
set_option linter.unusedVariables false
set_option linter.unusedSimpArgs false
theorem info3s:(Tryz.prog.info? 3).map (fun i=>(i.zero,i.size,i.bytes))=some (some (.int .i64 0),1,8):=by kernel_rfl
def i64a (l:List Int):Array Value:=(l.map (fun x=>Value.int .i64 x)).toArray
theorem i64a_at (l:List Int) (i:Nat):(i64a l)[i]?=l[i]?.map (fun x=>Value.int .i64 x):=by simp [i64a]
theorem i64a_set (l:List Int) (i:Nat) (x:Int):(i64a l).setIfInBounds i (.int .i64 x)=i64a (l.set i x):=by
  unfold i64a
  rw [List.setIfInBounds_toArray,List.map_set]
theorem made_i64a (n:Nat):madeCells #[.int .i64 0] n=i64a (List.replicate n 0):=by
  apply Array.ext
  · simp [i64a,size_madeCells]
  · intro i h1 h2
    simp [madeCells,i64a,Nat.mod_one]
def Ib (w:World) (b:Nat) (l:List Int):Prop:=w.heap[b]?=some (.cells (i64a l) 3 (0,0))
theorem Ib.set {w:World} {b:Nat} {l:List Int} (h:Ib w b l) (i:Nat) (x:Int):Ib (w.setCell ⟨b,i,none⟩ (.int .i64 x)) b (l.set i x):=by
  have:=heap_setCell_at (k:=i) h (.int .i64 x)
  rw [i64a_set] at this
  exact this
theorem Ib.lt {w:World} {b:Nat} {l:List Int} (h:Ib w b l):b < w.heap.size:=(Array.getElem?_eq_some_iff.1 h).1
theorem Ib.cell {w:World} {b i:Nat} {x:Int} {l:List Int} (h:Ib w b l) (hx:l[i]?=some x):w.cell? ⟨b,i,none⟩=some (.int .i64 x):=by
  rw [cell_blk h,i64a_at,hx]
  rfl
theorem Ib.fz {w:World} {b:Nat} {l:List Int} (h:Ib w b l) (i:Nat):w.frozen? ⟨b,i,none⟩=false:=fz_blk h i
theorem Ib.iw {w:World} {b:Nat} {l:List Int} (h:Ib w b l):Iw w (some ⟨b,0,none⟩) l.length l:=⟨rfl,b,0,fun _=>⟨rfl,h.lt⟩,fun j x hj=>by rw [Nat.zero_add];exact h.cell hj⟩
def Mz (w:World) (b:Nat) (jn af:Int) (vT vD lN lO rN rO:Value):Prop:=w.heap[b]?=some (.cells #[.int .u32 jn,.int .u32 af,vT,vD,lN,lO,rN,rO] 70 (0,0))
set_option maxRecDepth 100000 in
set_option maxHeartbeats 1000000 in
theorem classesM_any (b:Nat) (jn af:Int) (aT:Option Addr) (nT cT:Nat) (vD lN lO rN rO:Value) (w:World) (h:Mz w b jn af (.slice aT nT cT) vD lN lO rN rO):Calls Tryz.prog 11 #[.pointer (some ⟨b,0,none⟩)] w fun e w'=>e=.returned (.int .i64 (nT:Int))∧w'=w:=by
  have c2:w.cell? ⟨b,2,none⟩=some (.slice aT nT cT):=cell_blk h
  have lb:b < w.heap.size:=(Array.getElem?_eq_some_iff.1 h).1
  clear h
  go_enter Tryz.func11,Tryz.ntmps11
  go_wp2_with fail
  go_ret
  exact ⟨rfl,rfl⟩
set_option maxRecDepth 100000 in
set_option maxHeartbeats 4000000 in
theorem treated_any (T:List Int) (a:Option Addr) (n c:Nat) (w:World) (hT:Iw w a n T) (hn:n≤24) (hn0:0 < n) :
    Calls Tryz.prog 21 #[.slice a n c,.int .i64 (n:Int)] w fun e w'=>∃ b,e=.returned (.slice (some ⟨b,0,none⟩) n n)∧w.heap.size≤b∧Ib w' b (T.map (fun x=>clO x n))∧Only (fun _=>False) w w':=by
  obtain ⟨hl,bT,off,hb,hc⟩:=hT
  obtain ⟨rfl,hbl⟩:=hb hn0
  have HNL:Hid (T.length=n):=hl
  have HC:Hid (∀ (j:Nat) (x:Int),T[j]?=some x→w.cell? ⟨bT,off+j,none⟩=some (.int .i64 x)):=hc
  clear hb hc hl
  have hmk:=fun (w:World)=>run_make_row' (P:=Tryz.prog) 23 3 (.int .i64 0) 8 Tryz.underlying23 info3s rfl .i64 .i64 n (by omega) (by omega) w
  go_enter Tryz.func21,Tryz.ntmps21
  go_wp2_with fail
  go_loopg [11] n (fun gh v wr=>∃ (k:Nat) (W:World),W=wr∧gh=n - k∧k≤n∧v=.int .i64 (k:Int)∧Ib W w.heap.size (fst0 (T.map (fun x=>clO x n)) k)∧Only (fun _=>False) w W)
  case atStart =>
    refine ⟨0,_,rfl,rfl,Nat.zero_le _,rfl,?_,(Only.refl _ _).alloc _⟩
    rw [fst0_zero,List.length_map,HNL.out]
    unfold Ib
    rw [← made_i64a]
    exact heap_alloc_new w _
  case round =>
    obtain ⟨k,W,hW,rfl,hk,rfl,hU,ho⟩:=hrel
    subst hW
    have HU:Hid (Ib W w.heap.size (fst0 (T.map (fun x=>clO x n)) k)):=hU
    have HO:Hid (Only (fun _=>False) w W):=ho
    have lub:=hU.lt
    by_cases hlt:k < n
    · have t1:(k:Int) < (n:Int):=by omega
      obtain ⟨r,hr⟩:∃ r,T[k]?=some r:=⟨_,List.getElem?_eq_getElem (by rw [HNL.out];exact hlt)⟩
      have HD:Hid ((T.map (fun x=>clO x n))[k]?=some (clO r n)):=by
        show _=_
        rw [List.getElem?_map,hr]
        rfl
      have q0:=(World.cell?_of_block (a:=⟨bT,off+k,none⟩) (ho.block bT hbl (fun h=>h))).trans (HC.out k r hr)
      have hne:bT≠w.heap.size:=by omega
      have q1:(W.setCell ⟨w.heap.size,k,none⟩ (.int .i64 (k:Int))).cell? ⟨bT,off+k,none⟩=some (.int .i64 r):=(World.cell?_of_block (a:=⟨bT,off+k,none⟩) (Below.heap_setCell _ _ _ _ hne)).trans q0
      obtain ⟨x,hx⟩:∃ x,(fst0 (T.map (fun x=>clO x n)) k)[k]?=some x:=⟨_,List.getElem?_eq_getElem (by rw [fst0_len (by rw [List.length_map,HNL.out];exact hk),List.length_map,HNL.out];exact hlt)⟩
      have u0:=hU.cell hx
      have u1:∀ x,W.frozen? ⟨w.heap.size,x,none⟩=false:=fun x=>hU.fz x
      have hk1:k < (fst0 (T.map (fun x=>clO x n)) k).length:=(List.getElem?_eq_some_iff.1 hx).1
      have u2:(W.setCell ⟨w.heap.size,k,none⟩ (.int .i64 (k:Int))).cell? ⟨w.heap.size,k,none⟩=some (.int .i64 (k:Int)):=(hU.set k (k:Int)).cell (by rw [List.getElem?_set_self hk1])
      have u3:∀ x,(W.setCell ⟨w.heap.size,k,none⟩ (.int .i64 (k:Int))).frozen? ⟨w.heap.size,x,none⟩=false:=fun x=>(hU.set k (k:Int)).fz x
      have lbW:bT < W.heap.size:=Nat.lt_of_lt_of_le hbl ho.size
      clear hU ho hr hx hmk
      go_wp2_with (go_at_call 23;refine (classOf_any r (n:Int) _).mono ?_;rintro e w2 ⟨rfl,rfl⟩)
      go_roundg (n - (k+1))
      case measure=>omega
      case rel =>
        refine ⟨k+1,_,rfl,rfl,by omega,by go_num,?_,((HO.out.setNew (p:=⟨w.heap.size,k,none⟩) (Nat.le_refl _) _).setNew (p:=⟨w.heap.size,k,none⟩) (Nat.le_refl _) _)⟩
        have hs:=(HU.out.set k (k:Int)).set k (clO r n)
        rw [List.set_set,fst0_set HD.out] at hs
        exact hs
    · have t2:decide ((k:Int) < (n:Int))=false:=decide_eq_false (by omega)
      have hkn:k=n:=by omega
      subst hkn
      clear hU ho hmk
      go_wp2_with fail
      go_ret
      refine ⟨w.heap.size,rfl,Nat.le_refl _,?_,HO.out⟩
      have:=HU.out
      rw [show fst0 (T.map (fun x=>clO x k)) k=T.map (fun x=>clO x k) by have:=fst0_full (T.map (fun x=>clO x k));rw [List.length_map,HNL.out] at this;exact this] at this
      exact this
end Go.Proofs.YtchaoonefiamdaaGreatDoor
namespace Go.Proofs.YtchaoonefiamdaaGreatDoor
open Go.RowKit Go.Maps
set_option linter.unusedVariables false
set_option linter.unusedSimpArgs false
def tzL:List Int:=[0,1,28,2,29,14,24,3,30,22,20,15,25,17,4,8,31,27,13,23,21,19,16,7,26,12,18,6,11,5,10,9]
def Tz (w:World):Prop:=0 < w.heap.size∧∀ (j:Nat) (v:Int),tzL[j]?=some v→w.cell? ⟨0,j,none⟩=some (.int .u8 v)
theorem Tz.keep {w w':World} (h:Tz w) (ho:Only (fun _=>False) w w'):Tz w':=⟨Nat.lt_of_lt_of_le h.1 ho.size,fun j v hj=>(World.cell?_of_block (a:=⟨0,j,none⟩) (ho.block 0 h.1 (fun h=>h))).trans (h.2 j v hj)⟩
def tz (x:Nat):Nat:=((List.range 9).find? (fun k=>x.testBit k)).getD 0
def tzi (x:Nat):Nat:=(x &&& (4294967296 - x))*125613361 % 4294967296 / 134217728
theorem tz_all:(List.range 512).all (fun x=>x == 0 || (tzi x < 32 && tzL[tzi x]? == some ((tz x:Nat):Int) && (tz x < 9) && x.testBit (tz x)))=true:=by kernel_rfl
theorem tz_of {x:Nat} (h0:0 < x) (hx:x < 512):tzi x < 32∧tzL[tzi x]?=some ((tz x:Nat):Int)∧tz x < 9∧x.testBit (tz x)=true:=by
  have:=List.all_eq_true.1 tz_all x (by simp;exact hx)
  simp at this
  rcases this with h | h
  · omega
  · exact ⟨h.1.1.1,h.1.1.2,h.1.2,h.2⟩
set_option maxRecDepth 100000 in
set_option maxHeartbeats 4000000 in
theorem tz_any (x:Nat) (w:World) (h0:0 < x) (hx:x < 512) (hT:Tz w) :
    Calls Tryz.prog 39 #[.int .u32 (x:Int)] w fun e w'=>e=.returned (.int .i64 (tz x:Int))∧w'=w:=by
  obtain ⟨h1,h2,h3,h4⟩:=tz_of h0 hx
  have c0:=hT.2 _ _ h2
  have lh:=hT.1
  have hq:bits .and .u32 (x:Int) (-(x:Int) % 4294967296)=((x &&& (4294967296 - x):Nat):Int):=by
    rw [show -(x:Int) % 4294967296=((4294967296 - x:Nat):Int) by omega]
    exact u32_and_nat _ _ (by omega) (by omega)
  have hi:bits .and .u32 (x:Int) (-(x:Int) % 4294967296)*125613361 % 4294967296 / 134217728=((tzi x:Nat):Int):=by
    rw [hq]
    unfold tzi
    omega
  have t1:¬ (x:Int)=0:=by omega
  have t2:((x:Int) == 0)=false:=by simp;omega
  have t3:((tzi x:Nat):Int) < 32:=by omega
  obtain ⟨ti,hti⟩:∃ ti,ti=tzi x:=⟨_,rfl⟩
  rw [← hti] at c0 hi t3
  have htl:ti < 32:=by omega
  clear hT h1 h2 h4 hq hti
  go_enter Tryz.func39,Tryz.ntmps39
  go_wp2_with fail
  go_ret
  exact ⟨rfl,rfl⟩
def frs (D:List Int) (x:Nat):Int:=if x=0 then 1 else D[tz x]?.getD 0
set_option maxRecDepth 100000 in
set_option maxHeartbeats 4000000 in
theorem first_any (b:Nat) (jn af:Int) (vT:Value) (gD nD cD:Nat) (lN lO rN rO:Value) (D:List Int) (x:Nat) (w:World) (hM:Mz w b jn af vT (.slice (some ⟨gD,0,none⟩) nD cD) lN lO rN rO) (hD:Ub w gD D) (hDn:D.length=nD) (hn:nD≤24) (hx:x < 512) (hk:0 < x→tz x < nD) (hT:Tz w) :
    Calls Tryz.prog 28 #[.pointer (some ⟨b,0,none⟩),.int .u32 (x:Int)] w fun e w'=>e=.returned (.int .u8 (frs D x))∧Only (fun _=>False) w w':=by
  have c3:w.cell? ⟨b,3,none⟩=some (.slice (some ⟨gD,0,none⟩) nD cD):=cell_blk hM
  have lb:b < w.heap.size:=(Array.getElem?_eq_some_iff.1 hM).1
  have lD:=hD.lt
  by_cases h0:x=0
  · subst h0
    clear hM hD hT hk
    go_enter Tryz.func28,Tryz.ntmps28
    go_wp2_with fail
    go_ret
    exact ⟨rfl,Only.refl _ _⟩
  · have HT:Hid (Calls Tryz.prog 39 #[.int .u32 (x:Int)] w.drew fun e w'=>e=.returned (.int .i64 (tz x:Int))∧w'=w.drew):=tz_any x w.drew (by omega) hx (hT.keep (Only.refl _ _).drew)
    have hk1:tz x < nD:=hk (by omega)
    obtain ⟨y,hy⟩:∃ y,D[tz x]?=some y:=⟨_,List.getElem?_eq_getElem (by omega)⟩
    have c4:=hD.cell hy
    have hf:frs D x=y:=by
      unfold frs
      rw [if_neg h0,hy]
      rfl
    rw [hf]
    have t1:¬ (x:Int)=0:=by omega
    have t2:((x:Int) == 0)=false:=by simp;omega
    have t3:(tz x:Int) < (nD:Int):=by omega
    generalize tz x=k at *
    clear hM hD hT hk hf hy
    go_enter Tryz.func28,Tryz.ntmps28
    go_wp2_with fail
    go_region_held3 (fun w'=>w'.cell? ⟨b,3,none⟩=some (.slice (some ⟨gD,0,none⟩) nD cD)∧w'.cell? ⟨gD,k,none⟩=some (.int .u8 y)) (exact ⟨c3,c4⟩) ((go_at_call 39;refine HT.out.mono ?_;rintro e w2 ⟨rfl,rfl⟩))
    all_goals
      go_wp2_with fail
      go_ret
      exact ⟨rfl,(Only.refl _ _).drew⟩
end Go.Proofs.YtchaoonefiamdaaGreatDoor
namespace Go.Proofs.YtchaoonefiamdaaGreatDoor
open Go.RowKit Go.Maps
set_option linter.unusedVariables false
set_option linter.unusedSimpArgs false
theorem Iw.at {w:World} {a:Option Addr} {n:Nat} {L:List Int} (h:Iw w a n L) (h0:0 < n):∃ b off,a=some ⟨b,off,none⟩∧b < w.heap.size∧∀ w',Only (fun _=>False) w w'→∀ (j:Nat) (x:Int),L[j]?=some x→w'.cell? ⟨b,off+j,none⟩=some (.int .i64 x):=by
  obtain ⟨_,b,off,h1,h2⟩:=h
  exact ⟨b,off,(h1 h0).1,(h1 h0).2,fun w' ho j x hj=>(World.cell?_of_block (a:=⟨b,off+j,none⟩) (ho.block b (h1 h0).2 (fun h=>h))).trans (h2 j x hj)⟩
def tk1 (T C:List Int) (p:Int):Int:=T[(clO (C[p.toNat]?.getD 0) T.length).toNat]?.getD 0
set_option maxRecDepth 100000 in
set_option maxHeartbeats 4000000 in
theorem taken_any (b:Nat) (jn af:Int) (aT:Option Addr) (nT cT:Nat) (vD lN lO rN rO:Value) (T C P:List Int) (aC:Option Addr) (nC cC:Nat) (aP:Option Addr) (nP cP:Nat) (w:World)
    (hM:Mz w b jn af (.slice aT nT cT) vD lN lO rN rO) (hT:Iw w aT nT T) (hT0:0 < nT) (hTn:nT≤24) (hC:Iw w aC nC C) (hCn:nC≤1000) (hP:Iw w aP nP P) (hPn:nP≤1000) (hin:∀ p∈P,0≤p∧p < (nC:Int)) :
    Calls Tryz.prog 14 #[.pointer (some ⟨b,0,none⟩),.slice aC nC cC,.slice aP nP cP] w fun e w'=>∃ g,e=.returned (.slice (some ⟨g,0,none⟩) nP nP)∧w.heap.size≤g∧Ib w' g (P.map (tk1 T C))∧Only (fun _=>False) w w':=by
  have HM:Hid (Mz w b jn af (.slice aT nT cT) vD lN lO rN rO):=hM
  have HT:Hid (Iw w aT nT T):=hT
  have HC:Hid (Iw w aC nC C):=hC
  have HP:Hid (Iw w aP nP P):=hP
  have HIN:Hid (∀ p∈P,0≤p∧p < (nC:Int)):=hin
  clear hM hT hC hP hin
  have hmk:=fun (w:World)=>run_make_row' (P:=Tryz.prog) 23 3 (.int .i64 0) 8 Tryz.underlying23 info3s rfl .i64 .i64 nP (by omega) (by omega) w
  go_enter Tryz.func14,Tryz.ntmps14
  go_wp2_with fail
  go_loopg [15] nP (fun gh v wr=>∃ (k:Nat) (W:World),W=wr∧gh=nP - k∧k≤nP∧v=.int .i64 (k:Int)∧Ib W w.heap.size (fst0 (P.map (tk1 T C)) k)∧Only (fun _=>False) w W)
  case atStart =>
    refine ⟨0,_,rfl,rfl,Nat.zero_le _,rfl,?_,(Only.refl _ _).alloc _⟩
    rw [fst0_zero,List.length_map,HP.out.1]
    unfold Ib
    rw [← made_i64a]
    exact heap_alloc_new w _
  case round =>
    obtain ⟨k,W,hW,rfl,hk,rfl,hU,ho⟩:=hrel
    subst hW
    have HU:Hid (Ib W w.heap.size (fst0 (P.map (tk1 T C)) k)):=hU
    have HO:Hid (Only (fun _=>False) w W):=ho
    have lub:=hU.lt
    by_cases hlt:k < nP
    · have t1:(k:Int) < (nP:Int):=by omega
      obtain ⟨r,hr⟩:∃ r,P[k]?=some r:=⟨_,List.getElem?_eq_getElem (by rw [HP.out.1];exact hlt)⟩
      obtain ⟨rp,rfl⟩:∃ rp:Nat,r=(rp:Int):=⟨r.toNat,by have:=(HIN.out r (List.mem_of_getElem? hr)).1;omega⟩
      have hrp:rp < nC:=by have:=(HIN.out _ (List.mem_of_getElem? hr)).2;omega
      have hrp2:(rp:Int) < (nC:Int):=by omega
      obtain ⟨x,hx⟩:∃ x,C[rp]?=some x:=⟨_,List.getElem?_eq_getElem (by rw [HC.out.1];exact hrp)⟩
      have hcl:=clO_lt (n:=x) (c:=(nT:Int)) (by omega)
      obtain ⟨q,hq⟩:∃ q:Nat,clO x nT=(q:Int):=⟨(clO x nT).toNat,by omega⟩
      have HQ:Hid (clO x nT=(q:Int)):=hq
      have hqn:q < nT:=by omega
      have hqn2:(q:Int) < (nT:Int):=by omega
      obtain ⟨y,hy⟩:∃ y,T[q]?=some y:=⟨_,List.getElem?_eq_getElem (by rw [HT.out.1];exact hqn)⟩
      have HD:Hid ((P.map (tk1 T C))[k]?=some y):=by
        show _=_
        rw [List.getElem?_map,hr]
        show some (tk1 T C (rp:Int))=_
        unfold tk1
        rw [Int.toNat_natCast,hx,HT.out.1]
        show some (T[(clO x nT).toNat]?.getD 0)=_
        rw [hq,Int.toNat_natCast,hy]
        rfl
      obtain ⟨bP,oP,rfl,lP0,hcP⟩:=HP.out.at (by omega)
      obtain ⟨bC,oC,rfl,lC0,hcC⟩:=HC.out.at (by omega)
      obtain ⟨bT,oT,rfl,lT0,hcT⟩:=HT.out.at hT0
      have lb0:b < w.heap.size:=(Array.getElem?_eq_some_iff.1 HM.out).1
      have lP:bP < W.heap.size:=Nat.lt_of_lt_of_le lP0 ho.size
      have lC:bC < W.heap.size:=Nat.lt_of_lt_of_le lC0 ho.size
      have lT:bT < W.heap.size:=Nat.lt_of_lt_of_le lT0 ho.size
      have p0:=hcP W ho k _ hr
      have p1:=hcC W ho rp _ hx
      have p2:=hcT W ho q _ hy
      have HMW:Hid (Mz W b jn af (.slice (some ⟨bT,oT,none⟩) nT cT) vD lN lO rN rO):=(ho.block b (Array.getElem?_eq_some_iff.1 HM.out).1 (fun h=>h)).trans HM.out
      have p3:W.cell? ⟨b,2,none⟩=some (.slice (some ⟨bT,oT,none⟩) nT cT):=cell_blk HMW.out
      have lb:b < W.heap.size:=(Array.getElem?_eq_some_iff.1 HMW.out).1
      obtain ⟨z,hz⟩:∃ z,(fst0 (P.map (tk1 T C)) k)[k]?=some z:=⟨_,List.getElem?_eq_getElem (by rw [fst0_len (by rw [List.length_map,HP.out.1];exact hk),List.length_map,HP.out.1];exact hlt)⟩
      have u0:=hU.cell hz
      have u1:∀ x,W.frozen? ⟨w.heap.size,x,none⟩=false:=fun x=>hU.fz x
      clear hU ho hr hx hmk hy hz hq hcl hcP hcC hcT
      have HMD:Hid (Mz W.drew b jn af (.slice (some ⟨bT,oT,none⟩) nT cT) vD lN lO rN rO):=HMW.out
      have HKp:Hid (∀ w':World,Only (·=w.heap.size) W w'→(w'.cell? ⟨b,2,none⟩=some (.slice (some ⟨bT,oT,none⟩) nT cT)∧w'.cell? ⟨bC,oC+rp,none⟩=some (.int .i64 x)∧w'.cell? ⟨bT,oT+q,none⟩=some (.int .i64 y))):=fun w' ho=>⟨(World.cell?_of_block (a:=⟨b,2,none⟩) (ho.block _ lb (Nat.ne_of_lt lb0))).trans p3,(World.cell?_of_block (a:=⟨bC,oC+rp,none⟩) (ho.block _ lC (Nat.ne_of_lt lC0))).trans p1,(World.cell?_of_block (a:=⟨bT,oT+q,none⟩) (ho.block _ lT (Nat.ne_of_lt lT0))).trans p2⟩
      go_wp2_with fail
      go_region_held3 (fun w'=>w'.cell? ⟨b,2,none⟩=some (.slice (some ⟨bT,oT,none⟩) nT cT)∧w'.cell? ⟨bC,oC+rp,none⟩=some (.int .i64 x)∧w'.cell? ⟨bT,oT+q,none⟩=some (.int .i64 y)) ((first | exact HKp.out _ ((Only.refl (·=w.heap.size) W).drew) | exact HKp.out _ (((Only.refl (·=w.heap.size) W).setCell (p:=⟨w.heap.size,k,none⟩) rfl _).drew) | exact HKp.out _ (((Only.refl (·=w.heap.size) W).drew).setCell (p:=⟨w.heap.size,k,none⟩) rfl _))) ((first | (go_at_call 11;refine (classesM_any b jn af _ nT cT vD lN lO rN rO _ HMD.out).mono ?_;rintro e w2 ⟨rfl,rfl⟩) | (go_at_call 23;refine (classOf_any x (nT:Int) _).mono ?_;rintro e w2 ⟨rfl,rfl⟩;rw [HQ.out])))
      all_goals
        go_wp2_with fail
        go_roundg (nP - (k+1))
        case measure=>omega
        case rel =>
          refine ⟨k+1,_,rfl,rfl,by omega,by go_num,?_,(HO.out.drew.setNew (p:=⟨w.heap.size,k,none⟩) (Nat.le_refl _) _)⟩
          have hs:=HU.out.set k y
          rw [fst0_set HD.out] at hs
          exact hs
    · have t2:decide ((k:Int) < (nP:Int))=false:=decide_eq_false (by omega)
      have hkn:k=nP:=by omega
      subst hkn
      clear hU ho hmk
      go_wp2_with fail
      go_ret
      refine ⟨w.heap.size,rfl,Nat.le_refl _,?_,HO.out⟩
      have:=HU.out
      rw [show fst0 (P.map (tk1 T C)) k=P.map (tk1 T C) by have:=fst0_full (P.map (tk1 T C));rw [List.length_map,HP.out.1] at this;exact this] at this
      exact this
end Go.Proofs.YtchaoonefiamdaaGreatDoor
