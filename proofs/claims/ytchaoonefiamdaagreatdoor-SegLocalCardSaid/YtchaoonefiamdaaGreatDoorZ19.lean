/- Rn Sts2a -/
import Derived.Test.YtchaoonefiamdaaGreatDoorZ11
import Derived.Maps.AppendAt
import Derived.Test.YtchaoonefiamdaaGreatDoorZ18
import Derived.Deep.CutRange
namespace Go.Proofs.YtchaoonefiamdaaGreatDoor
open Go.RowKit Go.Maps
set_option linter.unusedVariables false
set_option linter.unusedSimpArgs false
def Iw (w:World) (a:Option Addr) (n:Nat) (L:List Int):Prop:=L.length=n∧∃ b off,(0 < n→a=some ⟨b,off,none⟩∧b < w.heap.size)∧∀ (j:Nat) (x:Int),L[j]?=some x→w.cell? ⟨b,off+j,none⟩=some (.int .i64 x)
theorem Iw.keep {w w':World} {a:Option Addr} {n:Nat} {L:List Int} (h:Iw w a n L) (ho:Only (fun _=>False) w w'):Iw w' a n L:=by
  obtain ⟨hl,b,off,h1,h2⟩:=h
  refine ⟨hl,b,off,fun h0=>⟨(h1 h0).1,Nat.lt_of_lt_of_le (h1 h0).2 ho.size⟩,fun j x hj=>?_⟩
  have h0:0 < n:=by have:=(List.getElem?_eq_some_iff.1 hj).1;omega
  exact (World.cell?_of_block (a:=⟨b,off+j,none⟩) (ho.block b (h1 h0).2 (fun h=>h))).trans (h2 j x hj)
structure Wy where
  a:Option Addr
  n:Nat
  c:Nat
  L:List Int
def wy0:Wy:=⟨none,0,0,[]⟩
def Nw (w:World) (a:Option Addr) (n:Nat) (ws:List Wy):Prop:=ws.length=n∧∃ b off,(0 < n→a=some ⟨b,off,none⟩∧b < w.heap.size)∧∀ (j:Nat) (x:Wy),ws[j]?=some x→Iw w x.a x.n x.L∧x.n≤maxLen∧w.cell? ⟨b,off+j,none⟩=some (.slice x.a x.n x.c)
theorem Nw.keep {w w':World} {a:Option Addr} {n:Nat} {ws:List Wy} (h:Nw w a n ws) (ho:Only (fun _=>False) w w'):Nw w' a n ws:=by
  obtain ⟨hl,b,off,h1,h2⟩:=h
  refine ⟨hl,b,off,fun h0=>⟨(h1 h0).1,Nat.lt_of_lt_of_le (h1 h0).2 ho.size⟩,fun j x hj=>?_⟩
  have h0:0 < n:=by have:=(List.getElem?_eq_some_iff.1 hj).1;omega
  obtain ⟨k1,k2,k3⟩:=h2 j x hj
  exact ⟨k1.keep ho,k2,(World.cell?_of_block (a:=⟨b,off+j,none⟩) (ho.block b (h1 h0).2 (fun h=>h))).trans k3⟩
def wy (ws:List Wy) (s:Int):Wy:=if 0≤s then ws[s.toNat]?.getD wy0 else wy0
def run (ws:List Wy):Int→List Int→List Int
  | _,[]=>[]
  | s,c :: cs=>if 0≤c∧c < ((wy ws s).n:Int) then (wy ws s).L[c.toNat]?.getD 0 :: run ws ((wy ws s).L[c.toNat]?.getD 0) cs else []
def autV (aN:Option Addr) (nN cN:Nat) (aO:Option Addr) (nO cO:Nat):Value:=.agg #[.slice aN nN cN,.slice aO nO cO]
theorem Nw.wy {w:World} {a:Option Addr} {n:Nat} {ws:List Wy} (h:Nw w a n ws) (s:Int):Iw w (wy ws s).a (wy ws s).n (wy ws s).L∧(wy ws s).n≤maxLen:=by
  have h0:Iw w wy0.a wy0.n wy0.L∧wy0.n≤maxLen:=⟨⟨rfl,0,0,fun h=>absurd h (by decide),fun j x hj=>by simp [wy0] at hj⟩,Nat.zero_le _⟩
  unfold YtchaoonefiamdaaGreatDoor.wy
  split
  · cases hx:ws[s.toNat]? with
    | none=>exact h0
    | some x =>
      obtain ⟨_,b,off,_,h2⟩:=h
      exact ⟨(h2 _ x hx).1,(h2 _ x hx).2.1⟩
  · exact h0
set_option maxRecDepth 100000 in
set_option maxHeartbeats 4000000 in
theorem waysOf_any (aN:Option Addr) (nN cN:Nat) (aO:Option Addr) (nO cO:Nat) (ws:List Wy) (s:Int) (w:World) (hN:Nw w aN nN ws) (hn:nN≤maxLen) :
    Calls Tryz.prog 38 #[autV aN nN cN aO nO cO,.int .i64 s] w fun e w'=>e=.returned (.slice (wy ws s).a (wy ws s).n (wy ws s).c)∧Only (fun _=>False) w w':=by
  unfold maxLen at hn
  by_cases h0:s < 0
  · have hw:wy ws s=wy0:=if_neg (by omega)
    rw [hw]
    unfold autV
    clear hN
    go_enter Tryz.func38,Tryz.ntmps38
    go_wp2_with fail
    go_ret
    exact ⟨rfl,(Only.refl _ _).alloc _⟩
  · have h0':¬ s < 0:=h0
    obtain ⟨k,rfl⟩:∃ k:Nat,s=(k:Int):=⟨s.toNat,by omega⟩
    have hw:wy ws (k:Int)=ws[k]?.getD wy0:=by
      unfold wy
      rw [if_pos (by omega),Int.toNat_natCast]
    rw [hw]
    obtain ⟨hl,b,off,h1,h2⟩:=hN
    by_cases hk:k < nN
    · have hk':(k:Int) < (nN:Int):=by omega
      have hk2:¬ (nN:Int)≤(k:Int):=by omega
      obtain ⟨rfl,hb⟩:=h1 (by omega)
      obtain ⟨x,hx⟩:∃ x,ws[k]?=some x:=⟨_,List.getElem?_eq_getElem (by omega)⟩
      obtain ⟨_,_,hc⟩:=h2 k x hx
      rw [hx]
      show Calls _ _ _ _ fun e w'=>e=.returned (.slice x.a x.n x.c)∧_
      obtain ⟨xa,xn,xc,xL⟩:=x
      simp only at hc ⊢
      clear h1 h2 hw hx hl
      unfold autV
      go_enter Tryz.func38,Tryz.ntmps38
      go_wp2_with fail
      go_ret
      exact ⟨rfl,(Only.refl _ _).alloc _⟩
    · have hk':(nN:Int)≤(k:Int):=by omega
      have hx:ws[k]?=none:=List.getElem?_eq_none (by omega)
      rw [hx]
      show Calls _ _ _ _ fun e w'=>e=.returned (.slice none 0 0)∧_
      clear h1 h2 hw hx hl
      unfold autV
      go_enter Tryz.func38,Tryz.ntmps38
      go_wp2_with fail
      go_ret
      exact ⟨rfl,(Only.refl _ _).alloc _⟩
theorem info3':(Tryz.prog.info? 3).map (fun i=>(i.zero,i.size,i.bytes))=some (some (.int .i64 0),1,8):=by kernel_rfl
theorem news1 (w:World) (v:Value) (t:TypeId):∀ (j:Nat) (u:Value),[v][j]?=some u→(w.alloc (.cells #[v] t)).cell? ((⟨w.heap.size,0,none⟩:Addr).add j)=some u:=by
  intro j u hj
  have hj0:=(List.getElem?_eq_some_iff.1 hj).1
  obtain rfl:j=0:=by simpa using hj0
  injection hj with hj
  subst hj
  rw [Addr.add_mid]
  exact (cell_of_row _ _ _ _ _ _ (heap_alloc_new w _)).trans rfl
def Abx (w:World) (g:Nat) (aN:Option Addr) (nN cN:Nat) (aO:Option Addr) (nO cO:Nat):Prop:=w.heap[g]?=some (.cells #[.slice aN nN cN,.slice aO nO cO] 63 (0,0))
theorem Abx.keep {w w':World} {g:Nat} {aN:Option Addr} {nN cN:Nat} {aO:Option Addr} {nO cO:Nat} (h:Abx w g aN nN cN aO nO cO) (ho:Only (fun _=>False) w w'):Abx w' g aN nN cN aO nO cO:=(ho.block g (Array.getElem?_eq_some_iff.1 h).1 (fun h=>h)).trans h
theorem Abx.c0 {w:World} {g:Nat} {aN:Option Addr} {nN cN:Nat} {aO:Option Addr} {nO cO:Nat} (h:Abx w g aN nN cN aO nO cO):w.cell? ⟨g,0,none⟩=some (.slice aN nN cN):=(cell_of_row _ _ _ _ _ _ h).trans rfl
theorem Abx.c1 {w:World} {g:Nat} {aN:Option Addr} {nN cN:Nat} {aO:Option Addr} {nO cO:Nat} (h:Abx w g aN nN cN aO nO cO):w.cell? ⟨g,1,none⟩=some (.slice aO nO cO):=(cell_of_row _ _ _ _ _ _ h).trans rfl
theorem run_app (ws:List Wy):∀ (s:Int) (pre:List Int) (C:List Int) (k:Nat) (c:Int),run ws 0 C=pre++run ws s (C.drop k)→C[k]?=some c→0≤c∧c < ((wy ws s).n:Int)→run ws 0 C=(pre++[(wy ws s).L[c.toNat]?.getD 0])++run ws ((wy ws s).L[c.toNat]?.getD 0) (C.drop (k+1)):=by
  intro s pre C k c h hc hr
  have hk:=(List.getElem?_eq_some_iff.1 hc)
  rw [h,List.drop_eq_getElem_cons hk.1,hk.2,run,if_pos hr,List.append_assoc]
  rfl
theorem run_stop (ws:List Wy):∀ (s:Int) (pre:List Int) (C:List Int) (k:Nat) (c:Int),run ws 0 C=pre++run ws s (C.drop k)→C[k]?=some c→¬ (0≤c∧c < ((wy ws s).n:Int))→run ws 0 C=pre:=by
  intro s pre C k c h hc hr
  have hk:=(List.getElem?_eq_some_iff.1 hc)
  rw [h,List.drop_eq_getElem_cons hk.1,hk.2,run,if_neg hr,List.append_nil]
set_option maxRecDepth 100000 in
set_option maxHeartbeats 4000000 in
theorem run_any (aN:Option Addr) (nN cN:Nat) (aO:Option Addr) (nO cO:Nat) (ws:List Wy) (aC:Option Addr) (nC cC:Nat) (C:List Int) (w:World) (hN:Nw w aN nN ws) (hn:nN≤maxLen) (hn0:0 < nN) (hC:Iw w aC nC C) (hnC:nC≤1000000) :
    Calls Tryz.prog 27 #[autV aN nN cN aO nO cO,.slice aC nC cC] w fun e w'=>∃ v,e=.returned v∧w'.ownsRow (w.heap.size+1) 3 1 v ((run ws 0 C).length+1) (ints (0 :: run ws 0 C))∧Only (fun _=>False) w w':=by
  have HN:Hid (Nw w aN nN ws):=hN
  have HC:Hid (Iw w aC nC C):=hC
  have HM:Hid (nN≤maxLen):=hn
  obtain ⟨i0,hi,hz0,hz1,hz2⟩:=info_parts info3'
  unfold maxLen at hn
  have hnz:¬ (nN:Int)=0:=by omega
  have hnz2:((nN:Int) == 0)=false:=by simp;omega
  clear hN hC
  unfold autV
  go_enter Tryz.func27,Tryz.ntmps27
  go_wp2_with fail
  go_loopg [5,6,18] nC (fun gh s v i wr=>∃ (k:Nat) (st:Int) (pre:List Int) (g cap:Nat) (W:World),W=wr∧gh=nC - k∧k≤nC∧s=.int .i64 st∧v=.slice (some ⟨g,0,none⟩) (k+1) cap∧i=.int .i64 (k:Int)∧pre.length=k∧run ws 0 C=pre++run ws st (C.drop k)∧W.ownsRow (w.heap.size+1) 3 1 (.slice (some ⟨g,0,none⟩) (k+1) cap) (k+1) (ints (0 :: pre))∧Only (fun _=>False) w W∧Abx W w.heap.size aN nN cN aO nO cO)
  case atStart =>
    refine ⟨0,0,[],w.heap.size+1,1,_,rfl,rfl,by omega,rfl,rfl,rfl,rfl,rfl,?_,((Only.refl _ _).alloc _).alloc _,Abx.keep (w:=w.alloc (.cells #[.slice aN nN cN,.slice aO nO cO] 63)) (heap_alloc_new w _) ((Only.refl _ _).alloc _)⟩
    exact ⟨rfl,Or.inr ⟨w.heap.size+1,1,#[.int .i64 0],rfl,Nat.le_refl _,heap_alloc2_new w _ _,Nat.le_refl _,by unfold maxLen;omega,rfl,rfl⟩⟩
  case round =>
    obtain ⟨k,st,pre,g,cap,W,hW,rfl,hk,rfl,rfl,rfl,hpl,hrun,hown,hOr,hAb⟩:=hrel
    subst hW
    have HOW:Hid (W.ownsRow (w.heap.size+1) 3 1 (.slice (some ⟨g,0,none⟩) (k+1) cap) (k+1) (ints (0 :: pre))):=hown
    have HRU:Hid (run ws 0 C=pre++run ws st (C.drop k)):=hrun
    have HPL:Hid (pre.length=k):=hpl
    have HAb:Hid (Abx W w.heap.size aN nN cN aO nO cO):=hAb
    have HOr:Hid (Only (fun _=>False) w W):=hOr
    have y0:=hAb.c0
    have y1:=hAb.c1
    clear hown hrun hpl hAb hOr
    by_cases hlt:k < nC
    · have t1:(k:Int) < (nC:Int):=by omega
      obtain ⟨hCl,b,off,h1,h2⟩:=HC.out.keep HOr.out
      obtain ⟨rfl,hb⟩:=h1 (by omega)
      obtain ⟨c,hc⟩:∃ c,C[k]?=some c:=⟨_,List.getElem?_eq_getElem (by omega)⟩
      have hcc:=h2 k c hc
      have HCK:Hid (C[k]?=some c):=hc
      clear h1 h2 hc hCl
      have hW2:=waysOf_any aN nN cN aO nO cO ws st W (HN.out.keep HOr.out) HM.out
      have hIy:=((HN.out.keep HOr.out).wy st)
      have HAp:=fun h=>run_app ws st pre C k c HRU.out HCK.out h
      have HSt:=fun h=>run_stop ws st pre C k c HRU.out HCK.out h
      generalize wy ws st=y at hW2 hIy HAp HSt
      obtain ⟨ya,yn,yc,yL⟩:=y
      simp only at hW2 hIy HAp HSt
      have HW2:Hid (Calls Tryz.prog 38 #[autV aN nN cN aO nO cO,.int .i64 st] W fun e w'=>e=.returned (.slice ya yn yc)∧Only (fun _=>False) W w'):=hW2
      have HI:Hid (Iw W ya yn yL∧yn≤maxLen):=hIy
      have hyn:=hIy.2
      unfold maxLen at hyn
      have HA:Hid (0≤c∧c < (yn:Int)→run ws 0 C=(pre++[yL[c.toNat]?.getD 0])++run ws (yL[c.toNat]?.getD 0) (C.drop (k+1))):=HAp
      have HS:Hid (¬ (0≤c∧c < (yn:Int))→run ws 0 C=pre):=HSt
      clear hW2 hIy HAp HSt
      by_cases hc0:c < 0
      · go_wp2_with (go_at_call 38;have hcq:=HW2.out;unfold autV at hcq;refine hcq.mono ?_;clear hcq;rintro e w5 ⟨rfl,ho5⟩)
        go_ret
        refine ⟨_,rfl,?_,HOr.out.trans ho5⟩
        rw [HS.out (by omega),HPL.out]
        exact own_only HOW.out ho5 (fun _ _ h=>h)
      · have hc0':¬ c < 0:=hc0
        obtain ⟨m,rfl⟩:∃ m:Nat,c=(m:Int):=⟨c.toNat,by omega⟩
        by_cases hcn:m < yn
        · have hcn':(m:Int) < (yn:Int):=by omega
          have hcn2:¬ (yn:Int)≤(m:Int):=by omega
          obtain ⟨⟨hyl,b2,off2,h3,h4⟩,_⟩:=HI.out
          obtain ⟨rfl,hb2⟩:=h3 (by omega)
          obtain ⟨t,ht⟩:∃ t,yL[m]?=some t:=⟨_,List.getElem?_eq_getElem (by omega)⟩
          have htc:=h4 m t ht
          have hR:=HA.out ⟨by omega,by omega⟩
          rw [Int.toNat_natCast,ht] at hR
          simp only [Option.getD_some] at hR
          have HR:Hid (run ws 0 C=(pre++[t])++run ws t (C.drop (k+1))):=hR
          have HTC:Hid (W.cell? ⟨b2,off2+m,none⟩=some (.int .i64 t)):=htc
          clear h3 h4 hyl ht htc hR HA HS
          go_wp2_with (first | (go_at_call 38;have hcq:=HW2.out;unfold autV at hcq;refine hcq.mono ?_;clear hcq;rintro e w5 ⟨rfl,ho5⟩;have q5:w5.cell? ⟨b2,off2+m,none⟩=some (.int .i64 t):=(World.cell?_of_block (a:=⟨b2,off2+m,none⟩) (ho5.block b2 hb2 (fun h=>h))).trans HTC.out;have HO5:Hid (w5.ownsRow (w.heap.size+1) 3 1 (.slice (some ⟨g,0,none⟩) (k+1) cap) (k+1) (ints (0 :: pre))):=own_only HOW.out ho5 (fun _ _ h=>h);have HS5:Hid (Only (fun _=>False) w w5):=HOr.out.trans ho5;have HA5:Hid (Abx w5 w.heap.size aN nN cN aO nO cO):=HAb.out.keep ho5;have hw5:w.heap.size+1≤w5.heap.size:=(Array.getElem?_eq_some_iff.1 HA5.out).1;clear ho5) | (at_builtin;refine wpList_append_own_at _ rfl _ _ 23 rfl (w.heap.size+1) 3 i0 (.int .i64 0) 1 8 Tryz.underlying23 hi hz0 hz1 hz2 rfl (by decide) _ _ _ rfl (HO5.out.alloc (.cells #[.int .i64 t] 3)) ⟨w5.heap.size,0,none⟩ 1 1 [.int .i64 t] rfl rfl (news1 _ _ _) (fun u hu=>by simp at hu;subst hu;rfl) (by unfold maxLen;omega) (by omega) (by simp;omega) ?_;intro v6 w6 hown6 hg6 _ _;obtain ⟨g6,cap6,rfl,hgb6,hgl6,hgc6,_⟩:=row_form hown6 (by omega)))
          have hgb:w.heap.size+1≤g:=by
            obtain ⟨g',cap',hv,hgb,_⟩:=row_form HOW.out (by omega)
            injection hv with hv _ _
            injection hv with hv
            injection hv with hv
            omega
          have o1:Only (·=g) (w5.alloc (.cells #[.int .i64 t] 3)) w6:=(Only.refl (·=g) _).grown hg6 (fun k h=>by injection h with h;exact h.symm)
          have o2:Only (·=g) w w6:=((HS5.out.alloc _).mono (fun _ h=>h.elim)).trans o1
          have o3:Only (fun _=>False) w w6:=⟨o2.os,o2.tape,o2.output,o2.size,fun b hb _=>o2.block b hb (by omega)⟩
          have hab:Abx w6 w.heap.size aN nN cN aO nO cO:=(o1.block w.heap.size (by simp;omega) (by omega)).trans (HA5.out.keep ((Only.refl _ _).alloc _))
          have hints:ints (0 :: pre)++[.int .i64 t]=ints (0 :: (pre++[t])):=by unfold ints;simp
          rw [hints] at hown6
          go_roundg (nC - (k+1))
          case measure=>omega
          case rel=>exact ⟨k+1,t,pre++[t],g6,cap6,w6,rfl,rfl,by omega,rfl,rfl,by go_num,by rw [List.length_append,HPL.out];rfl,HR.out,hown6,o3,hab⟩
        · have hcn':(yn:Int)≤(m:Int):=by omega
          go_wp2_with (go_at_call 38;have hcq:=HW2.out;unfold autV at hcq;refine hcq.mono ?_;clear hcq;rintro e w5 ⟨rfl,ho5⟩)
          go_ret
          refine ⟨_,rfl,?_,HOr.out.trans ho5⟩
          rw [HS.out (by omega),HPL.out]
          exact own_only HOW.out ho5 (fun _ _ h=>h)
    · have t2:decide ((k:Int) < (nC:Int))=false:=decide_eq_false (by omega)
      go_wp2_with fail
      go_ret
      refine ⟨_,rfl,?_,HOr.out⟩
      have hl:C.length=nC:=HC.out.1
      have hr:=HRU.out
      rw [List.drop_eq_nil_of_le (by omega),run,List.append_nil] at hr
      rw [hr,HPL.out]
      exact HOW.out
end Go.Proofs.YtchaoonefiamdaaGreatDoor
namespace Go.Proofs.YtchaoonefiamdaaGreatDoor
open Go.RowKit Go.Maps
set_option linter.unusedVariables false
set_option linter.unusedSimpArgs false
def Aut (W:World) (lo cl:Nat) (v:Value) (nx:List (List Nat)) (o:List Nat):Prop:=∃ (rows:List (Nat × List Nat)) (vN vO:Value),v=.agg #[vN,vO]∧nx=rows.map (·.2)∧W.ownsRow lo 23 1 vN rows.length (rows.map (rowV cl))∧W.ownsRow lo 42 1 vO o.length (o.map u32V)∧RowsOk W lo cl rows
def noAut:Value:=.agg #[.slice none 0 0,.slice none 0 0]
def stsP (w:World) (cl:Nat) (R:Option (List (List Nat) × List Nat)) (e:Ending) (w':World):Prop :=
  (match R with
  | none=>e=.returned (.tuple #[noAut,.int .i64 27])
  | some (nx,o)=>∃ v,e=.returned (.tuple #[v,.int .i64 0])∧Aut w' w.heap.size cl v nx o)∧Only (fun _=>False) w w'
theorem sz33:(Tryz.prog.info? 63).map (·.size)=some 2:=by kernel_rfl
theorem info3b:(Tryz.prog.info? 3).map (fun i=>(i.zero,i.size,i.bytes))=some (some (.int .i64 0),1,8):=by kernel_rfl
theorem info43:(Tryz.prog.info? 23).map (fun i=>(i.zero,i.size,i.bytes))=some (some (.slice none 0 0),1,24):=by kernel_rfl
theorem info47:(Tryz.prog.info? 42).map (fun i=>(i.zero,i.size,i.bytes))=some (some (.int .u32 0),1,4):=by kernel_rfl
theorem zero3 (w:World):(zeroValue 3).run Tryz.prog w=.ok (.int .i64 0) w:=by kernel_rfl
theorem wf_i64 {a:Nat} (h:a≤1000):(Lit.int .i64 (a:Int)).wf=true:=by
  have e1:IntKind.min .i64=-9223372036854775808:=by decide
  have e2:IntKind.max .i64=9223372036854775807:=by decide
  have h0:(-9223372036854775808:Int)≤(a:Int):=by omega
  have h2:(a:Int)≤9223372036854775807:=by omega
  simp only [Lit.wf,e1,e2,h0,h2,decide_true,Bool.and_self]
set_option maxRecDepth 100000 in
theorem kds_first:KDs (DataW.put (DataW.map []:DataW Unit) (kc Tryz.prog 0) (.lit (.int .i64 0))) [0]:=by
  have h0:KDs (DataW.map []:DataW Unit) []:=fun S hS=>⟨by simp;rfl,by simp;rfl⟩
  have hI:IsMap (DataW.map []:DataW Unit):=World.ownsMap.isMap (World.ownsMap_made (H:=Unit) default Tryz.prog 95 (plainElem Tryz.prog 3))
  exact kds_put hI h0 (by decide) (by simp)
theorem kc_key0:keyOf Tryz.prog 95 (.agg #[.int .u64 0,.int .u64 0,.int .u64 0,.int .u64 0])=some (kc Tryz.prog 0):=by
  have h:=kc_key 0
  unfold sV sC at h
  rw [wd_zero,wd_zero,wd_zero,wd_zero] at h
  exact h
theorem ne_of_blk {fb7 fb1 n1 c1 n7 c7 N x:Nat} (h:(Value.slice (some ⟨fb7,0,none⟩) n7 c7).ownBlock=(Value.slice (some ⟨fb1,0,none⟩) n1 c1).ownBlock∨(Value.slice (some ⟨fb7,0,none⟩) n7 c7).ownBlock=some N) (h1:fb1≠x) (h2:N≠x):fb7≠x:=by
  rcases h with h | h
  · injection h with h
    simp only at h
    rw [h]
    exact h1
  · injection h with h
    simp only at h
    rw [h]
    exact h2
theorem blk_ne {fb1 n1 c1 q:Nat} (h:fb1≠q):¬ (Value.slice (some ⟨fb1,0,none⟩) n1 c1).ownBlock=some q:=fun e=>by
  injection e with e
  exact h e
theorem own_mono {w:World} {base base' e size n:Nat} {v:Value} {xs:List Value} (h:w.ownsRow base e size v n xs) (hb:base'≤base):w.ownsRow base' e size v n xs:=by
  obtain ⟨hl,h | ⟨g,cap,cur,hv,h1,h2⟩⟩:=h
  · exact ⟨hl,Or.inl h⟩
  · exact ⟨hl,Or.inr ⟨g,cap,cur,hv,Nat.le_trans hb h1,h2⟩⟩
theorem u32_news (w:World) (x:Nat):∀ j u,[u32V x][j]?=some u→(w.alloc (.cells #[.int .u32 (x:Int)] 42)).cell? ((⟨w.heap.size,0,none⟩:Addr).add j)=some u:=by
  intro j u hj
  rw [Addr.add_mid,Nat.zero_add,cell_of_row _ _ _ _ _ _ (heap_alloc_new _ _)]
  have e:[u32V x]=[Value.int .u32 (x:Int)]:=rfl
  rw [e] at hj
  simpa using hj
def StsOk:Prop:=∀ (g cl:Nat) (p:Au.Pl) (l:List Au.Nd) (fs:Nat) (vL:Value) (w:World),Plm w g cl p fs vL (emK l)→Lw w (fun b=>b < w.heap.size) vL (l.map (·.last))→p.sets.length≤200→cl≤24→l.length≤24→(∀ x∈l.map (·.last),x < 2 ^ 256)→(∀ c,Au.by' p c < 2 ^ 256) →
    Calls Tryz.prog 36 #[.pointer (some ⟨g,0,none⟩)] w (stsP w cl (Au.states p l fs cl 301 0 [0] [] []))
end Go.Proofs.YtchaoonefiamdaaGreatDoor
