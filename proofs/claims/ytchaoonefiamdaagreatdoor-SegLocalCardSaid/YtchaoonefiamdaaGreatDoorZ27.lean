/- Sg10 En0 Gl -/
import Derived.Test.YtchaoonefiamdaaGreatDoorZ26
import Derived.Test.YtchaoonefiamdaaGreatDoorZ00
namespace Go.Proofs.YtchaoonefiamdaaGreatDoor
open Go.RowKit Go.Maps
set_option linter.unusedVariables false
set_option linter.unusedSimpArgs false
open Rl (Ex)
def oOf:Ex→Int | .mk op _ _=>op
def sOf:Ex→Int | .mk _ s _=>s
theorem own_setS {w:World} {base e size n g c:Nat} {xs:List Value} (h:w.ownsRow base e size (.slice (some ⟨g,0,none⟩) n c) n xs) (i:Nat) (u:Value):(w.setCell ⟨g,i,none⟩ u).ownsRow base e size (.slice (some ⟨g,0,none⟩) n c) n (xs.set i u):=by
  obtain ⟨hl,⟨hv,h0⟩ | ⟨g',cap,cur,hv,h1,h2,h3,h4,h5,h6⟩⟩:=h
  · cases hv
  · injection hv with e1 e2 e3
    injection e1 with e1
    injection e1 with e1
    subst e1 e3
    refine ⟨by rw [List.length_set];exact hl,Or.inr ⟨g,c,cur.setIfInBounds i u,rfl,h1,heap_setCell_at h2 u,h3,h4,by simp [h5],?_⟩⟩
    rw [Array.toList_setIfInBounds,List.take_set,h6]
theorem own_cellS {w:World} {base e size n g c:Nat} {xs:List Value} (h:w.ownsRow base e size (.slice (some ⟨g,0,none⟩) n c) n xs) {i:Nat} {u:Value} (hu:xs[i]?=some u):w.cell? ⟨g,i,none⟩=some u∧w.frozen? ⟨g,i,none⟩=false∧base≤g∧g < w.heap.size:=by
  obtain ⟨hl,⟨hv,h0⟩ | ⟨g',cap,cur,hv,h1,h2,h3,h4,h5,h6⟩⟩:=h
  · cases hv
  · injection hv with e1 e2 e3
    injection e1 with e1
    injection e1 with e1
    subst e1 e3
    refine ⟨?_,fz_blk h2 i,h1,(Array.getElem?_eq_some_iff.1 h2).1⟩
    rw [cell_blk h2]
    rw [← h6,List.getElem?_take] at hu
    split at hu
    · rw [Array.getElem?_toList] at hu
      exact hu
    · cases hu
theorem own_k0 {w w':World} {base e size n:Nat} {v:Value} {xs:List Value} (h:w.ownsRow base e size v n xs) (ho:Only (fun _=>False) w w'):w'.ownsRow base e size v n xs:=by
  obtain ⟨hl,h | ⟨g,cap,cur,hv,h1,h2,h3⟩⟩:=h
  · exact ⟨hl,Or.inl h⟩
  · exact ⟨hl,Or.inr ⟨g,cap,cur,hv,h1,(ho.block g (Array.getElem?_eq_some_iff.1 h2).1 (fun h=>h)).trans h2,h3⟩⟩
def Trn (es:List Ex) (k:Nat) (xs:List Value):Prop:=∀ (i:Nat) (e:Ex),i < k→es[i]?=some e→xs[i*3]?=some (.int .u8 (oOf e))∧xs[i*3+1]?=some (.int .u32 (sOf e))∧xs[i*3+2]?=some (.slice none 0 0)
theorem Trn.next {es:List Ex} {k n:Nat} {xs:List Value} {e:Ex} (h:Trn es k xs) (hl:xs.length=n*3) (hk:k < n) (he:es[k]?=some e):Trn es (k+1) (((xs.set (k*3) (.int .u8 (oOf e))).set (k*3+1) (.int .u32 (sOf e))).set (k*3+2) (.slice none 0 0)):=fun i e' hi he'=>by
  by_cases q:i=k
  · subst q
    rw [he] at he'
    injection he' with he'
    subst he'
    refine ⟨?_,?_,?_⟩
    · rw [List.getElem?_set_ne (by omega),List.getElem?_set_ne (by omega),List.getElem?_set_self (by omega)]
    · rw [List.getElem?_set_ne (by omega),List.getElem?_set_self (by rw [List.length_set];omega)]
    · rw [List.getElem?_set_self (by rw [List.length_set,List.length_set];omega)]
  · obtain ⟨h1,h2,h3⟩:=h i e' (by omega) he'
    refine ⟨?_,?_,?_⟩
    · rw [List.getElem?_set_ne (by omega),List.getElem?_set_ne (by omega),List.getElem?_set_ne (by omega)];exact h1
    · rw [List.getElem?_set_ne (by omega),List.getElem?_set_ne (by omega),List.getElem?_set_ne (by omega)];exact h2
    · rw [List.getElem?_set_ne (by omega),List.getElem?_set_ne (by omega),List.getElem?_set_ne (by omega)];exact h3
set_option maxRecDepth 100000 in
set_option maxHeartbeats 4000000 in
theorem turned_any (es:List Ex) (F:Nat→Prop) (a:Option Addr) (c n:Nat) (w:World) (hL:Lex w F es a c) (hF:∀ b,F b→b < w.heap.size) (hnl:n=es.length) (hn:n≤24) (hlf:∀ e∈es,∃ op s,e=.mk op s []) :
    Calls Tryz.prog 20 #[.slice a n c] w fun e w'=>∃ b,e=.returned (.slice (some ⟨b,0,none⟩) n n)∧Lex w' (fun b=>b < w'.heap.size) es (some ⟨b,0,none⟩) n∧Only (fun _=>False) w w':=by
  have HG:Hid (∀ (k:Nat) (e:Ex),es[k]?=some e→∃ b off a1 c1,a=some ⟨b,off,none⟩∧b < w.heap.size∧w.cell? ⟨b,off+k*3,none⟩=some (.int .u8 (oOf e))∧w.cell? ⟨b,off+k*3+1,none⟩=some (.int .u32 (sOf e))∧w.cell? ⟨b,off+k*3+2,none⟩=some (.slice a1 0 c1)∧Te w F e (.agg #[.int .u8 (oOf e),.int .u32 (sOf e),.slice a1 0 c1])∧e=.mk (oOf e) (sOf e) []):=fun k e he=>by
    obtain ⟨b,off,rfl,hb,ht⟩:=hL.2 (fun h=>by rw [h] at he;simp at he)
    obtain ⟨o,s,q,h1,h2,h3,h4⟩:=Tes.get es b off k e ht he
    obtain ⟨op,st,rfl⟩:=hlf e (List.mem_of_getElem? he)
    have h5:=h4
    unfold Te at h4
    obtain ⟨a1,c1,e1,_⟩:=h4
    simp only [Value.agg.injEq,Array.mk.injEq,List.cons.injEq,and_true] at e1
    obtain ⟨rfl,rfl,rfl⟩:=e1
    exact ⟨b,off,a1,c1,rfl,hF b hb,h1,h2,h3,h5,rfl⟩
  have HNL:Hid (n=es.length):=hnl
  clear hL hF hlf hnl
  obtain ⟨i0,g3,g30,g31,g32⟩:=info_parts info50
  go_enter Tryz.func20,Tryz.ntmps20
  go_upto_region 2 with (refine wpList_make_full _ rfl _ _ 57 rfl w.heap.size 88 i0 (.agg #[.int .u8 0,.int .u32 0,.slice none 0 0]) 3 Tryz.underlying57 g3 g30 g31 .i64 .i64 _ _ n rfl rfl rfl rfl (by rw [g32];omega) (by unfold maxLen;omega) (Nat.le_refl _) ?_;intro w1 hown1 hg1)
  obtain ⟨rb,hrb⟩:∃ x,x=w.heap.size:=⟨_,rfl⟩
  rw [← hrb] at hown1 ⊢
  have ho1:Only (fun _=>False) w w1:=(Only.refl _ _).grown hg1 (fun k h=>by cases h)
  have H1:Hid ((∃ xs,w1.ownsRow rb 88 3 (.slice (some ⟨rb,0,none⟩) n n) n xs)∧Only (fun _=>False) w w1∧rb=w.heap.size):=⟨⟨_,hown1⟩,ho1,hrb⟩
  clear hown1 hg1 ho1 hrb g3 g30 g31 g32
  go_wp2_with fail
  go_loopg [11] n (fun gh v wr=>∃ (k:Nat) (xs:List Value) (W:World),W=wr∧gh=n - k∧k≤n∧v=.int .i64 (k:Int)∧W.ownsRow rb 88 3 (.slice (some ⟨rb,0,none⟩) n n) n xs∧Trn es k xs∧Only (fun _=>False) w W)
  case atStart =>
    obtain ⟨⟨xs,hx⟩,ho,_⟩:=H1.out
    exact ⟨0,xs,_,rfl,rfl,Nat.zero_le _,rfl,hx,fun i e hi=>by omega,ho⟩
  case round =>
    obtain ⟨k,xs,W,hW,rfl,hk,rfl,hown,htr,hoW⟩:=hrel
    subst hW
    have HK:Hid (W.ownsRow rb 88 3 (.slice (some ⟨rb,0,none⟩) n n) n xs∧Trn es k xs∧Only (fun _=>False) w W):=⟨hown,htr,hoW⟩
    by_cases hlt:k < n
    · have t1:(k:Int) < (n:Int):=by omega
      obtain ⟨e,he⟩:∃ e,es[k]?=some e:=⟨_,List.getElem?_eq_getElem (by rw [← HNL.out];exact hlt)⟩
      obtain ⟨b,off,a1,c1,rfl,hb,q0,q1,q2,hte,hee⟩:=HG.out k e he
      have d0:=old_at hoW q0
      have d1:=old_at hoW q1
      have d2:=old_at hoW q2
      have lb:b < W.heap.size:=Nat.lt_of_lt_of_le hb hoW.size
      have HE:Hid (es[k]?=some e):=he
      obtain ⟨op,hop⟩:∃ x,x=oOf e:=⟨_,rfl⟩
      obtain ⟨st,hst⟩:∃ x,x=sOf e:=⟨_,rfl⟩
      rw [← hop] at d0
      rw [← hst] at d1
      have HO:Hid (op=oOf e∧st=sOf e):=⟨hop,hst⟩
      have hxl:xs.length=n*3:=hown.1
      have HXL:Hid (xs.length=n*3):=hxl
      clear hown htr hoW he q0 q1 q2 hte hee hop hst hb
      go_upto_region 5 with fail
      obtain ⟨Y,hY⟩:∃ Z,Z=W.alloc (.cells #[.int .u8 op,.int .u32 st,.slice a1 0 c1] 88):=⟨_,rfl⟩
      obtain ⟨yb,hyb⟩:∃ z,z=W.heap.size:=⟨_,rfl⟩
      have HY:Hid (Y.heap[yb]?=some (.cells #[.int .u8 op,.int .u32 st,.slice a1 0 c1] 88 (0,0))∧Only (fun _=>False) W Y):=by rw [hY,hyb];exact ⟨heap_alloc_new _ _,(Only.refl _ _).alloc _⟩
      rw [← hY,← hyb]
      clear hY hyb d0 d1 d2 lb
      have y0:Y.cell? ⟨yb,0,none⟩=some (.int .u8 op):=cell_blk HY.out.1
      have y1:Y.cell? ⟨yb,1,none⟩=some (.int .u32 st):=cell_blk HY.out.1
      have y2:Y.cell? ⟨yb,2,none⟩=some (.slice a1 0 c1):=cell_blk HY.out.1
      have ly:yb < Y.heap.size:=(Array.getElem?_eq_some_iff.1 HY.out.1).1
      go_wp2_with fail
      refine Calls.mono (turn_leaf op st a1 c1 _) ?_
      rintro e' W2 ⟨rfl,ho2⟩
      have H2:Hid (W2.ownsRow rb 88 3 (.slice (some ⟨rb,0,none⟩) n n) n xs∧Only (fun _=>False) w W2):=⟨own_k0 HK.out.1 (HY.out.2.trans ho2),HK.out.2.2.trans (HY.out.2.trans ho2)⟩
      clear ho2 y0 y1 y2 ly
      obtain ⟨u0,hu0⟩:∃ u,xs[k*3]?=some u:=⟨_,List.getElem?_eq_getElem (by rw [HXL.out];omega)⟩
      obtain ⟨u1,hu1⟩:∃ u,xs[k*3+1]?=some u:=⟨_,List.getElem?_eq_getElem (by rw [HXL.out];omega)⟩
      obtain ⟨u2,hu2⟩:∃ u,xs[k*3+2]?=some u:=⟨_,List.getElem?_eq_getElem (by rw [HXL.out];omega)⟩
      obtain ⟨x0,f0,-,lr⟩:=own_cellS H2.out.1 hu0
      obtain ⟨x1,f1,-,-⟩:=own_cellS H2.out.1 hu1
      obtain ⟨x2,f2,-,-⟩:=own_cellS H2.out.1 hu2
      have HN:Hid (((W2.setCell ⟨rb,k*3,none⟩ (.int .u8 op)).setCell ⟨rb,k*3+1,none⟩ (.int .u32 st)).setCell ⟨rb,k*3+2,none⟩ (.slice none 0 0) |>.ownsRow rb 88 3 (.slice (some ⟨rb,0,none⟩) n n) n (((xs.set (k*3) (.int .u8 op)).set (k*3+1) (.int .u32 st)).set (k*3+2) (.slice none 0 0))):=own_setS (own_setS (own_setS H2.out.1 _ _) _ _) _ _
      have HT:Hid (Trn es (k+1) (((xs.set (k*3) (.int .u8 op)).set (k*3+1) (.int .u32 st)).set (k*3+2) (.slice none 0 0))):=by
        rw [HO.out.1,HO.out.2]
        exact HK.out.2.1.next HXL.out hlt HE.out
      have hrbw:w.heap.size≤rb:=Nat.le_of_eq H1.out.2.2.symm
      clear hu0 hu1 hu2 hxl
      go_wp2_with fail
      go_roundg (n - (k+1))
      case measure=>omega
      case rel=>exact ⟨k+1,_,_,rfl,rfl,by omega,by go_num,HN.out,HT.out,((H2.out.2.setNew (p:=⟨rb,k*3,none⟩) hrbw _).setNew (p:=⟨rb,k*3+1,none⟩) hrbw _).setNew (p:=⟨rb,k*3+2,none⟩) hrbw _⟩
    · have t1:decide ((k:Int) < (n:Int))=false:=decide_eq_false (by omega)
      have hkn:k=n:=by omega
      have HL:Hid (Lex W (fun b=>b < W.heap.size) es (some ⟨rb,0,none⟩) n):=by
        have hT:Txs W (fun _=>False) es xs:=fun i e he=>by
          have hi:=(List.getElem?_eq_some_iff.1 he).1
          obtain ⟨h1,h2,h3⟩:=htr i e (by rw [hkn,HNL.out];exact hi) he
          obtain ⟨b,off,a1,c1,_,_,_,_,_,hte,hee⟩:=HG.out i e he
          refine ⟨_,_,_,h1,h2,h3,?_⟩
          rw [hee] at hte ⊢
          unfold Te at hte ⊢
          obtain ⟨a2,c2,e1,p1,p2,p3,p4,_⟩:=hte
          exact ⟨none,0,rfl,Nat.le_refl _,Nat.zero_le _,p3,p4,fun h=>absurd rfl h⟩
        have ho':W.ownsRow rb 88 3 (.slice (some ⟨rb,0,none⟩) n n) es.length xs:=by rw [← HNL.out];exact hown
        obtain ⟨a',c',e1,e2⟩:=Lex.of hT ho' (fun b hb=>hb.elim) (fun b hb=>hb.elim) (by rw [← HNL.out];omega)
        injection e1 with e1 e3 e4
        subst e1
        exact ⟨e2.1,e2.2⟩
      clear hown htr hoW
      go_wp2_with fail
      go_ret
      exact ⟨rb,rfl,HL.out,HK.out.2.2⟩
end Go.Proofs.YtchaoonefiamdaaGreatDoor
namespace Go.Proofs.YtchaoonefiamdaaGreatDoor
set_option linter.unusedVariables false
set_option linter.unusedSimpArgs false
namespace Au
open Rl (Ex)
inductive Rt (R:Nat→Nat→Prop):Nat→Nat→Prop
  | refl (i:Nat):Rt R i i
  | step {i m j:Nat}:Rt R i m→R m j→Rt R i j
theorem Rt.trans {R:Nat→Nat→Prop} {i m j:Nat} (h:Rt R i m) (k:Rt R m j):Rt R i j:=by
  induction k with
  | refl=>exact h
  | step _ hr ih=>exact .step ih hr
theorem Rt.head {R:Nat→Nat→Prop} {i m j:Nat} (h:R i m) (k:Rt R m j):Rt R i j:=(Rt.step (.refl i) h).trans k
def hitB (C:List Int) (set:Int) (i:Nat):Bool:=match C[i]? with
  | some c=>decide (0≤c∧c < 32∧set / 2 ^ c.toNat % 2=1)
  | none=>false
def hit (C:List Int) (set:Int) (i:Nat):Prop:=hitB C set i=true
theorem hit_iff (C:List Int) (set:Int) (i:Nat):hit C set i↔∃ c,C[i]?=some c∧0≤c∧c < 32∧set / 2 ^ c.toNat % 2=1:=by
  unfold hit hitB
  cases hx:C[i]? with
  | none=>simp
  | some c=>simp
mutual
def mt (C:List Int):Ex→Nat→Nat→Prop
  | .mk op set kids,i,j =>
    if op=1 then j=i+1∧hit C set i
    else if op=2 then mts C kids i j
    else if op=3 then mta C kids i j
    else if op=4 then Rt (mt1 C kids) i j
    else if op=5 then ∃ m,Rt (mt1 C kids) i m∧mt1 C kids m j
    else if op=6 then i=j∨mt1 C kids i j
    else i=j
def mts (C:List Int):List Ex→Nat→Nat→Prop
  | [],i,j=>i=j
  | k :: ks,i,j=>∃ m,mt C k i m∧mts C ks m j
def mta (C:List Int):List Ex→Nat→Nat→Prop
  | [],_,_=>False
  | k :: ks,i,j=>mt C k i j∨mta C ks i j
def mt1 (C:List Int):List Ex→Nat→Nat→Prop
  | [],_,_=>False
  | k :: _,i,j=>mt C k i j
end
def Img (M:Nat→Nat→Prop) (s R:Nat):Prop:=∀ j,R.testBit j=true↔∃ i,s.testBit i=true∧M i j
theorem Img.or {M N:Nat→Nat→Prop} {s R S:Nat} (h:Img M s R) (k:Img N s S):Img (fun i j=>M i j∨N i j) s (R ||| S):=fun j=>by
  rw [Nat.testBit_or,Bool.or_eq_true,h j,k j]
  constructor
  · rintro (⟨i,a,b⟩ | ⟨i,a,b⟩)
    · exact ⟨i,a,Or.inl b⟩
    · exact ⟨i,a,Or.inr b⟩
  · rintro ⟨i,a,b | b⟩
    · exact Or.inl ⟨i,a,b⟩
    · exact Or.inr ⟨i,a,b⟩
theorem Img.comp {M N:Nat→Nat→Prop} {s R S:Nat} (h:Img M s R) (k:Img N R S):Img (fun i j=>∃ m,M i m∧N m j) s S:=fun j=>by
  rw [k j]
  constructor
  · rintro ⟨m,a,b⟩
    obtain ⟨i,c,d⟩:=(h m).1 a
    exact ⟨i,c,m,d,b⟩
  · rintro ⟨i,c,m,d,b⟩
    exact ⟨m,(h m).2 ⟨i,c,d⟩,b⟩
theorem Img.id (s:Nat):Img (fun i j=>i=j) s s:=fun j=>⟨fun h=>⟨j,h,rfl⟩,fun ⟨i,h,e⟩=>by subst e;exact h⟩
theorem Img.none (s:Nat):Img (fun _ _=>False) s 0:=fun j=>⟨fun h=>by simp at h,fun ⟨_,_,h⟩=>h.elim⟩
theorem Img.congr {M N:Nat→Nat→Prop} {s R:Nat} (h:Img M s R) (e:∀ i j,M i j↔N i j):Img N s R:=fun j=>by
  rw [h j]
  exact ⟨fun ⟨i,a,b⟩=>⟨i,a,(e i j).1 b⟩,fun ⟨i,a,b⟩=>⟨i,a,(e i j).2 b⟩⟩
structure Clo (M:Nat→Nat→Prop) (s out next:Nat):Prop where
  f1:∀ i j,s.testBit i=true→M i j→(out ||| next).testBit j=true
  f2:∀ i j,out.testBit i=true→M i j→(out ||| next).testBit j=true
  so:∀ j,(out ||| next).testBit j=true→∃ i,s.testBit i=true∧Rt M i j
theorem Clo.more {M:Nat→Nat→Prop} {s out next nx2:Nat} (h:Clo M s out next) (k:Img M (out ||| next) nx2):Clo M s (out ||| next) nx2:=by
  refine ⟨fun i j a b=>?_,fun i j a b=>?_,fun j hj=>?_⟩
  · rw [Nat.testBit_or,h.f1 i j a b,Bool.true_or]
  · rw [Nat.testBit_or,(k j).2 ⟨i,a,b⟩,Bool.or_true]
  · rw [Nat.testBit_or,Bool.or_eq_true] at hj
    rcases hj with hj | hj
    · exact h.so j hj
    · obtain ⟨m,a,b⟩:=(k j).1 hj
      obtain ⟨i,c,d⟩:=h.so m a
      exact ⟨i,c,.step d b⟩
theorem Clo.sub {M:Nat→Nat→Prop} {s out next:Nat} (h:Clo M s out next) (hn:∀ j,next.testBit j=true→out.testBit j=true):(∀ j,(out ||| next).testBit j=out.testBit j):=fun j=>by
  rw [Nat.testBit_or]
  cases h1:next.testBit j
  · simp
  · rw [hn j h1];rfl
theorem Clo.plus {M:Nat→Nat→Prop} {s out next:Nat} (h:Clo M s out next) (hp:∀ j,out.testBit j=true→∃ i m,s.testBit i=true∧Rt M i m∧M m j) (hn:∀ j,next.testBit j=true→out.testBit j=true):Img (fun i j=>∃ m,Rt M i m∧M m j) s out:=fun j=>by
  have he:=h.sub hn
  refine ⟨fun hj=>?_,fun ⟨i,a,m,b,c⟩=>?_⟩
  · obtain ⟨i,m,a,b,c⟩:=hp j hj
    exact ⟨i,a,m,b,c⟩
  · have key:∀ {m},Rt M i m→∀ j,M m j→out.testBit j=true:=fun {m} hb=>by
      induction hb with
      | refl=>intro j hc;have:=h.f1 _ _ a hc;rw [he] at this;exact this
      | step _ hr ih=>intro j hc;have:=h.f2 _ _ (ih _ hr) hc;rw [he] at this;exact this
    exact key b j c
end Au
end Go.Proofs.YtchaoonefiamdaaGreatDoor
namespace Go.Proofs.YtchaoonefiamdaaGreatDoor
set_option linter.unusedVariables false
set_option linter.unusedSimpArgs false
namespace Au
open Rl (Ex)
def st (p:Pl) (q:Nat):Int:=p.sets[q]?.getD 0
inductive Pw (C:List Int) (p:Pl) (q i:Nat):Nat→Nat→Prop
  | one:hit C (st p q) i→Pw C p q i q (i+1)
  | step {r j r':Nat}:Pw C p q i r j→(p.next r).testBit r'=true→hit C (st p r') j→Pw C p q i r' (j+1)
theorem Pw.append {C:List Int} {p:Pl} {q i r j f r' j':Nat} (h:Pw C p q i r j) (hn:(p.next r).testBit f=true) (k:Pw C p f j r' j'):Pw C p q i r' j':=by
  induction k with
  | one hh=>exact .step h hn hh
  | step _ hn' hh ih=>exact .step ih hn' hh
theorem Pw.lt {C:List Int} {p:Pl} {q i r j:Nat} (h:Pw C p q i r j):i < j:=by
  induction h with
  | one _=>omega
  | step _ _ _ ih=>omega
def Lg (C:List Int) (p:Pl) (x:Nd) (i j:Nat):Prop:=(x.none=true∧i=j)∨∃ q r,x.first.testBit q=true∧x.last.testBit r=true∧Pw C p q i r j
theorem Pw.to {C:List Int} {p p':Pl} {a b q i r j:Nat} (hq:a≤q∧q < b) (cl:∀ q r,a≤q→q < b→(p.next q).testBit r=true→a≤r∧r < b) (hs:∀ q,a≤q→q < b→st p q=st p' q)
    (hn:∀ q r,a≤q→q < b→(p.next q).testBit r=true→(p'.next q).testBit r=true) (h:Pw C p q i r j):Pw C p' q i r j∧a≤r∧r < b:=by
  induction h with
  | one hh=>exact ⟨.one (by rw [← hs _ hq.1 hq.2];exact hh),hq⟩
  | step _ h1 h2 ih =>
    obtain ⟨a1,a2,a3⟩:=ih
    have:=cl _ _ a2 a3 h1
    exact ⟨.step a1 (hn _ _ a2 a3 h1) (by rw [← hs _ this.1 this.2];exact h2),this⟩
structure Gd (C:List Int) (M:Nat→Nat→Prop) (a:Nat) (p:Pl) (x:Nd):Prop where
  fi:∀ q,x.first.testBit q=true→a≤q∧q < p.sets.length
  la:∀ q,x.last.testBit q=true→a≤q∧q < p.sets.length
  cl:∀ q r,a≤q→(p.next q).testBit r=true→a≤r∧r < p.sets.length
  lg:∀ i j,M i j↔Lg C p x i j
structure Xt (a:Nat) (p p1:Pl):Prop where
  pre:∃ S,p1.sets=p.sets++S
  nx:∀ q,q < a→p1.next q=p.next q
theorem Xt.len {a:Nat} {p p1:Pl} (h:Xt a p p1):p.sets.length≤p1.sets.length:=by
  obtain ⟨S,h⟩:=h.pre
  rw [h,List.length_append];omega
theorem Xt.st {a:Nat} {p p1:Pl} (h:Xt a p p1) {q:Nat} (hq:q < p.sets.length):st p q=st p1 q:=by
  obtain ⟨S,h⟩:=h.pre
  unfold Au.st
  rw [h,List.getElem?_append_left hq]
theorem Xt.refl (a:Nat) (p:Pl):Xt a p p:=⟨⟨[],by simp⟩,fun _ _=>rfl⟩
theorem Xt.trans {a b:Nat} {p p1 p2:Pl} (h:Xt a p p1) (k:Xt b p1 p2) (hab:a≤b):Xt a p p2:=by
  obtain ⟨S,h1⟩:=h.pre
  obtain ⟨T,k1⟩:=k.pre
  exact ⟨⟨S++T,by rw [k1,h1,List.append_assoc]⟩,fun q hq=>(k.nx q (by omega)).trans (h.nx q hq)⟩
theorem Gd.xt {C:List Int} {M:Nat→Nat→Prop} {a:Nat} {p p1:Pl} {x:Nd} (h:Gd C M a p x) (k:Xt p.sets.length p p1) (hz:∀ q,p.sets.length≤q→p.next q=0) :
    (∀ i j,M i j↔Lg C p1 x i j)∧(∀ q r,a≤q→q < p.sets.length→(p1.next q).testBit r=true→a≤r∧r < p.sets.length):=by
  have c1:∀ q r,a≤q→q < p.sets.length→(p1.next q).testBit r=true→a≤r∧r < p.sets.length:=fun q r h1 h2 h3=>h.cl q r h1 (by rw [k.nx q h2] at h3;exact h3)
  refine ⟨fun i j=>?_,c1⟩
  rw [h.lg]
  constructor
  · rintro (h1 | ⟨q,r,h1,h2,h3⟩)
    · exact Or.inl h1
    · exact Or.inr ⟨q,r,h1,h2,(Pw.to (h.fi q h1) (fun q r a1 _ a3=>h.cl q r a1 a3) (fun q _ hq=>k.st hq) (fun q r _ hq hh=>by rw [k.nx q hq];exact hh) h3).1⟩
  · rintro (h1 | ⟨q,r,h1,h2,h3⟩)
    · exact Or.inl h1
    · exact Or.inr ⟨q,r,h1,h2,(Pw.to (h.fi q h1) c1 (fun q _ hq=>(k.st hq).symm) (fun q r _ hq hh=>by rw [k.nx q hq] at hh;exact hh) h3).1⟩
theorem chain_bit (p:Pl) (b nx q r:Nat):((chain p b nx).next q).testBit r=true↔(p.next q).testBit r=true∨(b.testBit q=true∧nx.testBit r=true):=by
  show (if b.testBit q=true then p.next q ||| nx else p.next q).testBit r=true↔_
  split
  · rename_i h
    rw [Nat.testBit_or,Bool.or_eq_true]
    simp [h]
  · rename_i h
    simp [h]
theorem Gd.seq {C:List Int} {M N:Nat→Nat→Prop} {a:Nat} {p p2:Pl} {o y:Nd} (ha:a≤p.sets.length) (h:Gd C M a p o) (k:Gd C N p.sets.length p2 y) (hx:Xt p.sets.length p p2) (hz:∀ q,p.sets.length≤q→p.next q=0) :
    Gd C (fun i j=>∃ m,M i m∧N m j) a (chain p2 o.last y.first) (seq1 o y)∧Xt a p (chain p2 o.last y.first):=by
  have hl:=hx.len
  have lo:∀ q r,q < p.sets.length→((chain p2 o.last y.first).next q).testBit r=true→(p.next q).testBit r=true∨(o.last.testBit q=true∧y.first.testBit r=true):=fun q r hq hh=>by
    rcases (chain_bit _ _ _ _ _).1 hh with hh | hh
    · rw [hx.nx q hq] at hh;exact Or.inl hh
    · exact Or.inr hh
  have hi:∀ q r,p.sets.length≤q→((chain p2 o.last y.first).next q).testBit r=true→(p2.next q).testBit r=true:=fun q r hq hh=>by
    rcases (chain_bit _ _ _ _ _).1 hh with hh | hh
    · exact hh
    · have:=h.la q hh.1;omega
  have up2:∀ {q i r j},p.sets.length≤q∧q < p2.sets.length→Pw C p2 q i r j→Pw C (chain p2 o.last y.first) q i r j:=fun hq hw =>
    (Pw.to (p':=chain p2 o.last y.first) hq (fun q r a1 _ a3=>k.cl q r a1 a3) (fun q _ _=>rfl) (fun q r _ _ hh=>(chain_bit _ _ _ _ _).2 (Or.inl hh)) hw).1
  have dn2:∀ {q i r j},p.sets.length≤q∧q < p2.sets.length→Pw C (chain p2 o.last y.first) q i r j→Pw C p2 q i r j∧p.sets.length≤r∧r < p2.sets.length:=fun hq hw =>
    Pw.to hq (fun q r a1 _ a3=>k.cl q r a1 (hi q r a1 a3)) (fun q _ _=>rfl) (fun q r a1 _ hh=>hi q r a1 hh) hw
  have up1:∀ {q i r j},a≤q∧q < p.sets.length→Pw C p q i r j→Pw C (chain p2 o.last y.first) q i r j:=fun hq hw =>
    (Pw.to (p':=chain p2 o.last y.first) hq (fun q r a1 _ a3=>h.cl q r a1 a3) (fun q _ hq=>hx.st hq) (fun q r _ hq hh=>(chain_bit _ _ _ _ _).2 (Or.inl (by rw [hx.nx q hq];exact hh))) hw).1
  have dn1:∀ {q i r j},a≤q∧q < p.sets.length→Pw C (chain p2 o.last y.first) q i r j →
      (Pw C p q i r j∧a≤r∧r < p.sets.length)∨∃ m t f,Pw C p q i t m∧o.last.testBit t=true∧y.first.testBit f=true∧Pw C p2 f m r j∧p.sets.length≤r∧r < p2.sets.length:=fun {q i r j} hq hw=>by
    induction hw with
    | one hh=>exact Or.inl ⟨.one (by rw [hx.st hq.2];exact hh),hq⟩
    | @step r j r' _ h1 h2 ih =>
      rcases ih with ⟨w1,b1,b2⟩ | ⟨m,t,f,w1,w2,w3,w4,b1,b2⟩
      · rcases lo r r' b2 h1 with h1 | ⟨h1,h3⟩
        · have:=h.cl _ _ b1 h1
          exact Or.inl ⟨.step w1 h1 (by rw [hx.st this.2];exact h2),this⟩
        · have:=k.fi _ h3
          exact Or.inr ⟨j,r,r',w1,h1,h3,.one h2,this⟩
      · have h1:=hi r r' b1 h1
        have:=k.cl _ _ b1 h1
        exact Or.inr ⟨m,t,f,w1,w2,w3,.step w4 h1 h2,this⟩
  refine ⟨⟨fun q hq=>?_,fun q hq=>?_,fun q r hq hh=>?_,fun i j=>?_⟩,?_⟩
  · show a≤q∧q < p2.sets.length
    have hq:(if o.none=true then o.first ||| y.first else o.first).testBit q=true:=hq
    split at hq
    · rw [Nat.testBit_or,Bool.or_eq_true] at hq
      rcases hq with hq | hq
      · have:=h.fi q hq;omega
      · have:=k.fi q hq;omega
    · have:=h.fi q hq;omega
  · show a≤q∧q < p2.sets.length
    have hq:(if y.none=true then o.last ||| y.last else y.last).testBit q=true:=hq
    split at hq
    · rw [Nat.testBit_or,Bool.or_eq_true] at hq
      rcases hq with hq | hq
      · have:=h.la q hq;omega
      · have:=k.la q hq;omega
    · have:=k.la q hq;omega
  · show a≤r∧r < p2.sets.length
    by_cases hb:q < p.sets.length
    · rcases lo q r hb hh with h1 | h1
      · have:=h.cl q r hq h1;omega
      · have:=k.fi r h1.2;omega
    · have:=k.cl q r (by omega) (hi q r (by omega) hh);omega
  · have F:∀ q,(seq1 o y).first.testBit q=true↔o.first.testBit q=true∨(o.none=true∧y.first.testBit q=true):=fun q=>by
      show (if o.none=true then o.first ||| y.first else o.first).testBit q=true↔_
      split
      · rename_i hh;rw [Nat.testBit_or,Bool.or_eq_true];simp [hh]
      · rename_i hh;simp [hh]
    have L:∀ q,(seq1 o y).last.testBit q=true↔y.last.testBit q=true∨(y.none=true∧o.last.testBit q=true):=fun q=>by
      show (if y.none=true then o.last ||| y.last else y.last).testBit q=true↔_
      split
      · rename_i hh;rw [Nat.testBit_or,Bool.or_eq_true];simp [hh,or_comm]
      · rename_i hh;simp [hh]
    have NN:(seq1 o y).none=true↔o.none=true∧y.none=true:=by
      show (o.none && y.none)=true↔_
      rw [Bool.and_eq_true]
    constructor
    · rintro ⟨m,h1,h2⟩
      rcases (h.lg i m).1 h1 with ⟨n1,rfl⟩ | ⟨q,r,f1,l1,w1⟩
      · rcases (k.lg i j).1 h2 with ⟨n2,rfl⟩ | ⟨q,r,f2,l2,w2⟩
        · exact Or.inl ⟨NN.2 ⟨n1,n2⟩,rfl⟩
        · exact Or.inr ⟨q,r,(F q).2 (Or.inr ⟨n1,f2⟩),(L r).2 (Or.inl l2),up2 (k.fi q f2) w2⟩
      · rcases (k.lg m j).1 h2 with ⟨n2,rfl⟩ | ⟨q2,r2,f2,l2,w2⟩
        · exact Or.inr ⟨q,r,(F q).2 (Or.inl f1),(L r).2 (Or.inr ⟨n2,l1⟩),up1 (h.fi q f1) w1⟩
        · exact Or.inr ⟨q,r2,(F q).2 (Or.inl f1),(L r2).2 (Or.inl l2),(up1 (h.fi q f1) w1).append ((chain_bit _ _ _ _ _).2 (Or.inr ⟨l1,f2⟩)) (up2 (k.fi q2 f2) w2)⟩
    · rintro (⟨n,rfl⟩ | ⟨q,r,f,l,w⟩)
      · exact ⟨i,(h.lg i i).2 (Or.inl ⟨(NN.1 n).1,rfl⟩),(k.lg i i).2 (Or.inl ⟨(NN.1 n).2,rfl⟩)⟩
      · rcases (F q).1 f with f | ⟨n1,f⟩
        · rcases dn1 (h.fi q f) w with ⟨w1,b1,b2⟩ | ⟨m,t,g,w1,w2,w3,w4,b1,b2⟩
          · rcases (L r).1 l with l | ⟨n2,l⟩
            · have:=k.la r l;omega
            · exact ⟨j,(h.lg i j).2 (Or.inr ⟨q,r,f,l,w1⟩),(k.lg j j).2 (Or.inl ⟨n2,rfl⟩)⟩
          · rcases (L r).1 l with l | ⟨n2,l⟩
            · exact ⟨m,(h.lg i m).2 (Or.inr ⟨q,t,f,w2,w1⟩),(k.lg m j).2 (Or.inr ⟨g,r,w3,l,w4⟩)⟩
            · have:=h.la r l;omega
        · obtain ⟨w1,b1,b2⟩:=dn2 (k.fi q f) w
          rcases (L r).1 l with l | ⟨n2,l⟩
          · exact ⟨i,(h.lg i i).2 (Or.inl ⟨n1,rfl⟩),(k.lg i j).2 (Or.inr ⟨q,r,f,l,w1⟩)⟩
          · have:=h.la r l;omega
  · obtain ⟨S,hS⟩:=hx.pre
    refine ⟨⟨S,hS⟩,fun q hq=>?_⟩
    show (if o.last.testBit q=true then p2.next q ||| y.first else p2.next q)=p.next q
    rw [if_neg (fun hh=>by have:=h.la q hh;omega),hx.nx q (by omega)]
theorem Gd.alt {C:List Int} {M N:Nat→Nat→Prop} {a:Nat} {p p2:Pl} {o y:Nd} (ha:a≤p.sets.length) (h:Gd C M a p o) (k:Gd C N p.sets.length p2 y) (hx:Xt p.sets.length p p2) (hz:∀ q,p.sets.length≤q→p.next q=0) :
    Gd C (fun i j=>M i j∨N i j) a p2 (alt1 o y):=by
  have hl:=hx.len
  obtain ⟨h1,h2⟩:=h.xt hx hz
  refine ⟨fun q hq=>?_,fun q hq=>?_,fun q r hq hh=>?_,fun i j=>?_⟩
  · have hq:(o.first ||| y.first).testBit q=true:=hq
    rw [Nat.testBit_or,Bool.or_eq_true] at hq
    rcases hq with hq | hq
    · have:=h.fi q hq;omega
    · have:=k.fi q hq;omega
  · have hq:(o.last ||| y.last).testBit q=true:=hq
    rw [Nat.testBit_or,Bool.or_eq_true] at hq
    rcases hq with hq | hq
    · have:=h.la q hq;omega
    · have:=k.la q hq;omega
  · by_cases hb:q < p.sets.length
    · have:=h2 q r hq hb hh;omega
    · have:=k.cl q r (by omega) hh;omega
  · rw [h1,k.lg]
    have F:∀ q,(alt1 o y).first.testBit q=true↔o.first.testBit q=true∨y.first.testBit q=true:=fun q=>by
      show (o.first ||| y.first).testBit q=true↔_
      rw [Nat.testBit_or,Bool.or_eq_true]
    have L:∀ q,(alt1 o y).last.testBit q=true↔o.last.testBit q=true∨y.last.testBit q=true:=fun q=>by
      show (o.last ||| y.last).testBit q=true↔_
      rw [Nat.testBit_or,Bool.or_eq_true]
    have NN:(alt1 o y).none=true↔o.none=true∨y.none=true:=by
      show (o.none || y.none)=true↔_
      rw [Bool.or_eq_true]
    constructor
    · rintro ((⟨n,e⟩ | ⟨q,r,f,l,w⟩) | (⟨n,e⟩ | ⟨q,r,f,l,w⟩))
      · exact Or.inl ⟨NN.2 (Or.inl n),e⟩
      · exact Or.inr ⟨q,r,(F q).2 (Or.inl f),(L r).2 (Or.inl l),w⟩
      · exact Or.inl ⟨NN.2 (Or.inr n),e⟩
      · exact Or.inr ⟨q,r,(F q).2 (Or.inr f),(L r).2 (Or.inr l),w⟩
    · rintro (⟨n,e⟩ | ⟨q,r,f,l,w⟩)
      · rcases NN.1 n with n | n
        · exact Or.inl (Or.inl ⟨n,e⟩)
        · exact Or.inr (Or.inl ⟨n,e⟩)
      · rcases (F q).1 f with f | f
        · have hr:=(Pw.to (p':=p2) (h.fi q f) h2 (fun _ _ _=>rfl) (fun _ _ _ _ hh=>hh) w).2
          rcases (L r).1 l with l | l
          · exact Or.inl (Or.inr ⟨q,r,f,l,w⟩)
          · have:=k.la r l;omega
        · have hr:=(Pw.to (p':=p2) (k.fi q f) (fun q r a1 _ a3=>k.cl q r a1 a3) (fun _ _ _=>rfl) (fun _ _ _ _ hh=>hh) w).2
          rcases (L r).1 l with l | l
          · have:=h.la r l;omega
          · exact Or.inr (Or.inr ⟨q,r,f,l,w⟩)
theorem Gd.plus {C:List Int} {M:Nat→Nat→Prop} {a:Nat} {p:Pl} {x:Nd} (h:Gd C M a p x):Gd C (fun i j=>∃ m,Rt M i m∧M m j) a (chain p x.last x.first) x∧Gd C (Rt M) a (chain p x.last x.first) ⟨true,x.first,x.last⟩:=by
  have cl:∀ q r,a≤q→((chain p x.last x.first).next q).testBit r=true→a≤r∧r < p.sets.length:=fun q r hq hh=>by
    rcases (chain_bit _ _ _ _ _).1 hh with hh | hh
    · exact h.cl q r hq hh
    · exact h.fi r hh.2
  have up:∀ {q i r j},x.first.testBit q=true→Pw C p q i r j→Pw C (chain p x.last x.first) q i r j:=fun hq hw =>
    (Pw.to (p':=chain p x.last x.first) (h.fi _ hq) (fun q r a1 _ a3=>h.cl q r a1 a3) (fun q _ _=>rfl) (fun q r _ _ hh=>(chain_bit _ _ _ _ _).2 (Or.inl hh)) hw).1
  have dn:∀ {q i r j},x.first.testBit q=true→Pw C (chain p x.last x.first) q i r j→∃ m f,Rt M i m∧x.first.testBit f=true∧Pw C p f m r j:=fun {q i r j} hq hw=>by
    induction hw with
    | one hh=>exact ⟨i,q,.refl i,hq,.one hh⟩
    | @step r j r' _ h1 h2 ih =>
      obtain ⟨m,f,w1,w2,w3⟩:=ih
      rcases (chain_bit _ _ _ _ _).1 h1 with h1 | ⟨h1,h3⟩
      · exact ⟨m,f,w1,w2,.step w3 h1 h2⟩
      · exact ⟨j,r',.step w1 ((h.lg m j).2 (Or.inr ⟨f,r,w2,h1,w3⟩)),h3,.one h2⟩
  have all:∀ {i j},Rt M i j→i=j∨∃ q r,x.first.testBit q=true∧x.last.testBit r=true∧Pw C (chain p x.last x.first) q i r j:=fun {i j} hr=>by
    induction hr with
    | refl=>exact Or.inl rfl
    | @step m j _ h1 ih =>
      rcases (h.lg m j).1 h1 with ⟨_,rfl⟩ | ⟨q,r,f,l,w⟩
      · exact ih
      · rcases ih with rfl | ⟨q0,r0,f0,l0,w0⟩
        · exact Or.inr ⟨q,r,f,l,up f w⟩
        · exact Or.inr ⟨q0,r,f0,l,w0.append ((chain_bit _ _ _ _ _).2 (Or.inr ⟨l0,f⟩)) (up f w)⟩
  refine ⟨⟨h.fi,h.la,cl,fun i j=>⟨?_,?_⟩⟩,⟨h.fi,h.la,cl,fun i j=>⟨?_,?_⟩⟩⟩
  · rintro ⟨m,h1,h2⟩
    rcases (h.lg m j).1 h2 with ⟨n,rfl⟩ | ⟨q,r,f,l,w⟩
    · rcases all h1 with rfl | ⟨q,r,f,l,w⟩
      · exact Or.inl ⟨n,rfl⟩
      · exact Or.inr ⟨q,r,f,l,w⟩
    · rcases all h1 with rfl | ⟨q0,r0,f0,l0,w0⟩
      · exact Or.inr ⟨q,r,f,l,up f w⟩
      · exact Or.inr ⟨q0,r,f0,l,w0.append ((chain_bit _ _ _ _ _).2 (Or.inr ⟨l0,f⟩)) (up f w)⟩
  · rintro (⟨n,rfl⟩ | ⟨q,r,f,l,w⟩)
    · exact ⟨i,.refl i,(h.lg i i).2 (Or.inl ⟨n,rfl⟩)⟩
    · obtain ⟨m,g,w1,w2,w3⟩:=dn f w
      exact ⟨m,w1,(h.lg m j).2 (Or.inr ⟨g,r,w2,l,w3⟩)⟩
  · intro hr
    rcases all hr with rfl | ⟨q,r,f,l,w⟩
    · exact Or.inl ⟨rfl,rfl⟩
    · exact Or.inr ⟨q,r,f,l,w⟩
  · rintro (⟨_,rfl⟩ | ⟨q,r,f,l,w⟩)
    · exact .refl i
    · obtain ⟨m,g,w1,w2,w3⟩:=dn f w
      exact .step w1 ((h.lg m j).2 (Or.inr ⟨g,r,w2,l,w3⟩))
theorem Gd.opt {C:List Int} {M:Nat→Nat→Prop} {a:Nat} {p:Pl} {x:Nd} (h:Gd C M a p x):Gd C (fun i j=>i=j∨M i j) a p ⟨true,x.first,x.last⟩:=by
  refine ⟨h.fi,h.la,h.cl,fun i j=>?_⟩
  rw [h.lg]
  constructor
  · rintro (rfl | ⟨_,rfl⟩ | hh)
    · exact Or.inl ⟨rfl,rfl⟩
    · exact Or.inl ⟨rfl,rfl⟩
    · exact Or.inr hh
  · rintro (⟨_,rfl⟩ | hh)
    · exact Or.inl rfl
    · exact Or.inr (Or.inr hh)
theorem Gd.congr {C:List Int} {M N:Nat→Nat→Prop} {a:Nat} {p:Pl} {x:Nd} (h:Gd C M a p x) (e:∀ i j,M i j↔N i j):Gd C N a p x:=⟨h.fi,h.la,h.cl,fun i j=>(e i j).symm.trans (h.lg i j)⟩
end Au
end Go.Proofs.YtchaoonefiamdaaGreatDoor
