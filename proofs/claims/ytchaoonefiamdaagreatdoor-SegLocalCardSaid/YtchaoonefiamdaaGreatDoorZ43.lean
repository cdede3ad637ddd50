/- Sg4 Sg11 -/
import Derived.Test.YtchaoonefiamdaaGreatDoorZ42
import Derived.Test.YtchaoonefiamdaaGreatDoorZ27
import Derived.Deep.RegionHeld3
namespace Go.Proofs.YtchaoonefiamdaaGreatDoor
open Go.RowKit Go.Maps
set_option linter.unusedVariables false
set_option linter.unusedSimpArgs false
def bitI (s c:Int):Bool:=decide (s / 2 ^ c.toNat%2=1)
def al (jn af n:Int):List Int→Nat→Bool→List Int
 | [],_,_=>[]
 | x::xs,i,aft=>if aft=true∧bitI jn (clO x n)=true then al jn af n xs (i+1) aft else (i:Int)::al jn af n xs (i+1) (bitI af (clO x n))
theorem al_join {jn af n:Int} {C:List Int} {k:Nat} {x:Int} {aft:Bool} (hx:C[k]?=some x) (h:aft=true∧bitI jn (clO x n)=true):al jn af n (C.drop k) k aft=al jn af n (C.drop (k+1)) (k+1) aft:=by
 obtain⟨hl,rfl⟩:=List.getElem?_eq_some_iff.1 hx
 rw [List.drop_eq_getElem_cons hl,al,if_pos h]
theorem al_alone {jn af n:Int} {C:List Int} {k:Nat} {x:Int} {aft:Bool} (hx:C[k]?=some x) (h:¬ (aft=true∧bitI jn (clO x n)=true)):al jn af n (C.drop k) k aft=(k:Int)::al jn af n (C.drop (k+1)) (k+1) (bitI af (clO x n)):=by
 obtain⟨hl,rfl⟩:=List.getElem?_eq_some_iff.1 hx
 rw [List.drop_eq_getElem_cons hl,al,if_neg h]
set_option maxRecDepth 100000 in
set_option maxHeartbeats 4000000 in
theorem alone_any (b:Nat) (jn af:Int) (hj0:0≤jn) (hj1:jn < 4294967296) (ha0:0≤af) (ha1:af < 4294967296) (aT:Option Addr) (nT cT:Nat) (vD lN lO rN rO:Value) (C:List Int) (aC:Option Addr) (nC cC:Nat) (w:World)
  (hM:Mz w b jn af (.slice aT nT cT) vD lN lO rN rO) (hT0:0 < nT) (hTn:nT≤24) (hC:Iw w aC nC C) (hCn:nC≤1000) :
  Calls Tryz.prog 12 #[.pointer (some ⟨b,0,none⟩),.slice aC nC cC] w fun e w'=>∃ v,e=.returned v∧w'.ownsRow w.heap.size 3 1 v (al jn af nT C 0 false).length (ints (al jn af nT C 0 false))∧Only (fun _=>False) w w':=by
 have HM:Hid (Mz w b jn af (.slice aT nT cT) vD lN lO rN rO):=hM
 have HC:Hid (Iw w aC nC C):=hC
 clear hM hC
 obtain⟨i0,hi,hz0,hz1,hz2⟩:=info_parts info3'
 go_enter Tryz.func12,Tryz.ntmps12
 go_wp2_with fail
 go_loopg [5,6,12] nC (fun gh v f i wr=>∃ (k:Nat) (pre:List Int) (aft:Bool) (a:Option Addr) (cap:Nat) (W:World),W=wr∧gh=nC-k∧k≤nC∧v=.slice a pre.length cap∧f=.bool aft∧i=.int .i64 (k:Int)∧al jn af nT C 0 false=pre++al jn af nT (C.drop k) k aft∧pre.length≤k∧W.ownsRow w.heap.size 3 1 (.slice a pre.length cap) pre.length (ints pre)∧Only (fun _=>False) w W)
 case atStart=>exact⟨0,[],false,none,0,_,rfl,rfl,Nat.zero_le _,rfl,rfl,rfl,rfl,Nat.le_refl _,World.ownsRow_nil _ _ _ _,Only.refl _ _⟩
 case round =>
  obtain⟨k,pre,aft,a,cap,W,hW,rfl,hk,rfl,rfl,rfl,hal,hpk,hown,ho⟩:=hrel
  subst hW
  have HOW:Hid (W.ownsRow w.heap.size 3 1 (.slice a pre.length cap) pre.length (ints pre)):=hown
  have HAL:Hid (al jn af nT C 0 false=pre++al jn af nT (C.drop k) k aft):=hal
  have HO:Hid (Only (fun _=>False) w W):=ho
  by_cases hlt:k < nC
  ·have t1:(k:Int) < (nC:Int):=by omega
   obtain⟨x,hx⟩:∃ x,C[k]?=some x:=⟨_,List.getElem?_eq_getElem (by rw [HC.out.1];exact hlt)⟩
   have HX:Hid (C[k]?=some x):=hx
   have hcl:=clO_lt (n:=x) (c:=(nT:Int)) (by omega)
   obtain⟨q,hq⟩:∃ q:Nat,clO x nT=(q:Int):=⟨(clO x nT).toNat,by omega⟩
   have HQ:Hid (clO x nT=(q:Int)):=hq
   have hq32:q < 32:=by omega
   obtain⟨bC,oC,rfl,lC0,hcC⟩:=HC.out.at (by omega)
   have lb0:b < w.heap.size:=(Array.getElem?_eq_some_iff.1 HM.out).1
   have lC:bC < W.heap.size:=Nat.lt_of_lt_of_le lC0 ho.size
   have p0:=hcC W ho k _ hx
   have HMW:Hid (Mz W b jn af (.slice aT nT cT) vD lN lO rN rO):=(ho.block b lb0 (fun h=>h)).trans HM.out
   have lb:b < W.heap.size:=(Array.getElem?_eq_some_iff.1 HMW.out).1
   have p1:W.cell? ⟨b,0,none⟩=some (.int .u32 jn):=cell_blk HMW.out
   obtain⟨bj,hbj⟩:∃ bj,bj=bitI jn (clO x nT):=⟨_,rfl⟩
   have HB:Hid (bitI jn (clO x nT)=bj):=hbj.symm
   have HBJ:Hid (decide (jn / 2 ^ q%2=1)=bj):=by
    show _=_
    rw [hbj,hq]
    rfl
   clear hown hal ho hx hq hcl hcC hbj
   cases aft with
   | false =>
    go_wp2_with (first | (go_at_call 11;refine (classesM_any b jn af _ nT cT vD lN lO rN rO _ HMW.out).mono ?_;rintro e w2 ⟨rfl,hw2⟩;have hw2:=hw2.symm;subst hw2) | (go_at_call 23;refine (classOf_any x (nT:Int) _).mono ?_;rintro e w2 ⟨rfl,hw2⟩;have hw2:=hw2.symm;subst hw2;rw [HQ.out]) | (go_at_call_of 24 (Value.int .u32 af);refine (hasC_any af q ha0 ha1 hq32 _).mono ?_;rintro e w2 ⟨rfl,hw2⟩;have hw2:=hw2.symm;subst hw2) | (go_at_call 24;refine (hasC_any jn q hj0 hj1 hq32 _).mono ?_;rintro e w2 ⟨rfl,hw2⟩;have hw2:=hw2.symm;subst hw2;rw [HBJ.out]) | (at_builtin;refine wpList_append_own_at _ rfl _ _ 23 rfl w.heap.size 3 i0 (.int .i64 0) 1 8 Tryz.underlying23 hi hz0 hz1 hz2 rfl (by decide) _ _ _ rfl (HOW.out.alloc (.cells #[.int .i64 (k:Int)] 3)) ⟨W.heap.size,0,none⟩ 1 1 [.int .i64 (k:Int)] rfl rfl (news1 _ _ _) (fun u hu=>by simp at hu;subst hu;rfl) (by unfold maxLen;omega) (by omega) (by have:=HO.out.size;simp;omega) ?_;intro v6 w6 hown6 hg6 _ _;have HO6:Hid (Only (fun _=>False) w w6):=(((HO.out.mono (fun _ h=>h.elim)).trans (((Only.refl _ _).alloc _).grown hg6 (fun k h=>h))).old (fun g hg=>Or.inl (HOW.out.lt g hg).1));obtain⟨g6,cap6,rfl,hgb6,hgl6,hgc6,_⟩:=row_form hown6 (by omega);have HOW6:Hid (w6.ownsRow w.heap.size 3 1 (.slice (some ⟨g6,0,none⟩) (pre.length+1) cap6) (pre.length+1) (ints pre++[.int .i64 (k:Int)])):=hown6;have p6:w6.cell? ⟨b,1,none⟩=some (.int .u32 af):=cell_blk ((HO6.out.block b lb0 (fun h=>h)).trans HM.out);have lb6:b < w6.heap.size:=Nat.lt_of_lt_of_le lb0 HO6.out.size;clear hown6 hg6))
    go_roundg (nC-(k+1))
    case measure=>omega
    case rel =>
     refine⟨k+1,pre++[(k:Int)],bitI af (clO x nT),some ⟨g6,0,none⟩,cap6,_,rfl,rfl,by omega,by rw [List.length_append];rfl,by rw [HQ.out];rfl,by go_num,?_,by rw [List.length_append];simp;omega,?_,HO6.out⟩
     ·rw [HAL.out,al_alone HX.out (fun h=>absurd h.1 (by decide)),List.append_assoc]
      rfl
     ·have:=HOW6.out
      rw [List.length_append]
      unfold ints at this ⊢
      rw [List.map_append]
      exact this
   | true =>
    cases bj with
    | false =>
     go_wp2_with (first | (go_at_call 11;refine (classesM_any b jn af _ nT cT vD lN lO rN rO _ HMW.out).mono ?_;rintro e w2 ⟨rfl,hw2⟩;have hw2:=hw2.symm;subst hw2) | (go_at_call 23;refine (classOf_any x (nT:Int) _).mono ?_;rintro e w2 ⟨rfl,hw2⟩;have hw2:=hw2.symm;subst hw2;rw [HQ.out]) | (go_at_call_of 24 (Value.int .u32 af);refine (hasC_any af q ha0 ha1 hq32 _).mono ?_;rintro e w2 ⟨rfl,hw2⟩;have hw2:=hw2.symm;subst hw2) | (go_at_call 24;refine (hasC_any jn q hj0 hj1 hq32 _).mono ?_;rintro e w2 ⟨rfl,hw2⟩;have hw2:=hw2.symm;subst hw2;rw [HBJ.out]) | (at_builtin;refine wpList_append_own_at _ rfl _ _ 23 rfl w.heap.size 3 i0 (.int .i64 0) 1 8 Tryz.underlying23 hi hz0 hz1 hz2 rfl (by decide) _ _ _ rfl (HOW.out.alloc (.cells #[.int .i64 (k:Int)] 3)) ⟨W.heap.size,0,none⟩ 1 1 [.int .i64 (k:Int)] rfl rfl (news1 _ _ _) (fun u hu=>by simp at hu;subst hu;rfl) (by unfold maxLen;omega) (by omega) (by have:=HO.out.size;simp;omega) ?_;intro v6 w6 hown6 hg6 _ _;have HO6:Hid (Only (fun _=>False) w w6):=(((HO.out.mono (fun _ h=>h.elim)).trans (((Only.refl _ _).alloc _).grown hg6 (fun k h=>h))).old (fun g hg=>Or.inl (HOW.out.lt g hg).1));obtain⟨g6,cap6,rfl,hgb6,hgl6,hgc6,_⟩:=row_form hown6 (by omega);have HOW6:Hid (w6.ownsRow w.heap.size 3 1 (.slice (some ⟨g6,0,none⟩) (pre.length+1) cap6) (pre.length+1) (ints pre++[.int .i64 (k:Int)])):=hown6;have p6:w6.cell? ⟨b,1,none⟩=some (.int .u32 af):=cell_blk ((HO6.out.block b lb0 (fun h=>h)).trans HM.out);have lb6:b < w6.heap.size:=Nat.lt_of_lt_of_le lb0 HO6.out.size;clear hown6 hg6))
     go_roundg (nC-(k+1))
     case measure=>omega
     case rel =>
      refine⟨k+1,pre++[(k:Int)],bitI af (clO x nT),some ⟨g6,0,none⟩,cap6,_,rfl,rfl,by omega,by rw [List.length_append];rfl,by rw [HQ.out];rfl,by go_num,?_,by rw [List.length_append];simp;omega,?_,HO6.out⟩
      ·rw [HAL.out,al_alone HX.out (fun h=>by rw [HB.out] at h;exact absurd h.2 (by decide)),List.append_assoc]
       rfl
      ·have:=HOW6.out
       rw [List.length_append]
       unfold ints at this ⊢
       rw [List.map_append]
       exact this
    | true =>
     go_wp2_with (first | (go_at_call 11;refine (classesM_any b jn af _ nT cT vD lN lO rN rO _ HMW.out).mono ?_;rintro e w2 ⟨rfl,hw2⟩;have hw2:=hw2.symm;subst hw2) | (go_at_call 23;refine (classOf_any x (nT:Int) _).mono ?_;rintro e w2 ⟨rfl,hw2⟩;have hw2:=hw2.symm;subst hw2;rw [HQ.out]) | (go_at_call 24;refine (hasC_any jn q hj0 hj1 hq32 _).mono ?_;rintro e w2 ⟨rfl,hw2⟩;have hw2:=hw2.symm;subst hw2;rw [HBJ.out]))
     go_roundg (nC-(k+1))
     case measure=>omega
     case rel=>exact⟨k+1,pre,true,a,cap,_,rfl,rfl,by omega,rfl,rfl,by go_num,by rw [HAL.out,al_join HX.out ⟨rfl,HB.out⟩],by omega,HOW.out,HO.out⟩
  ·have t2:decide ((k:Int) < (nC:Int))=false:=decide_eq_false (by omega)
   have hkn:k=nC:=by omega
   subst hkn
   clear hown hal ho
   go_wp2_with fail
   go_ret
   refine⟨_,rfl,?_,HO.out⟩
   rw [HAL.out,List.drop_eq_nil_of_le (by rw [HC.out.1];exact Nat.le_refl _),al,List.append_nil]
   exact HOW.out
end Go.Proofs.YtchaoonefiamdaaGreatDoor
namespace Go.Proofs.YtchaoonefiamdaaGreatDoor
open Go.RowKit Go.Maps
set_option linter.unusedVariables false
set_option linter.unusedSimpArgs false
open Rl (Ex)
theorem iw_own {w:World} {base n c:Nat} {a:Option Addr} {l:List Int} (h:w.ownsRow base 3 1 (.slice a n c) n (ints l)) (hn:n=l.length):Iw w a n l:=by
 refine⟨hn.symm,?_⟩
 by_cases h0:0 < n
 ·obtain⟨g,cap,hv,hg,_,hc⟩:=L.own_cells h h0
  injection hv with e1
  refine⟨g,0,fun _=>⟨e1,hg⟩,fun j x hj=>?_⟩
  rw [Nat.zero_add]
  exact hc j _ (by unfold ints;rw [List.getElem?_map,hj];rfl)
 ·have e:l=[]:=List.eq_nil_of_length_eq_zero (by omega)
  subst e
  exact⟨0,0,fun h=>absurd h h0,fun j x hj=>by simp at hj⟩
theorem lex_grow {w w':World} {es:List Ex} {a:Option Addr} {c:Nat} (h:Lex w (fun b=>b < w.heap.size) es a c) (ho:Only (fun _=>False) w w'):Lex w' (fun b=>b < w'.heap.size) es a c:=by
 have h1:=h.only0 ho
 refine⟨h1.1,fun hn=>?_⟩
 obtain⟨b,off,e,hb,ht⟩:=h1.2 hn
 exact⟨b,off,e,Nat.lt_of_lt_of_le hb ho.size,Tes.keep (w:=w') (F:=fun b=>b < w.heap.size) (fun b _ o v hv=>hv) (fun b hb=>Nat.lt_of_lt_of_le hb ho.size) es b off hb ht⟩
theorem Ib.keep0 {w w':World} {b:Nat} {l:List Int} (h:Ib w b l) (ho:Only (fun _=>False) w w'):Ib w' b l:=(ho.block b h.lt (fun h=>h)).trans h
theorem Ub.keep0 {w w':World} {b:Nat} {l:List Int} (h:Ub w b l) (ho:Only (fun _=>False) w w'):Ub w' b l:=(ho.block b (Array.getElem?_eq_some_iff.1 h).1 (fun h=>h)).trans h
def mkP (w:World) (s:Rl.St) (cl n:Nat) (nL:List (List Nat)) (oL:List Nat) (nR:List (List Nat)) (oR:List Nat) (e:Ending) (w':World):Prop :=
 ∃ mb bT bD lN lO rN rO rowsL outsL rL rowsR outsR rR,e=.returned (.tuple #[.pointer (some ⟨mb,0,none⟩),.int .i64 0])∧Mz w' mb s.join s.after (.slice (some ⟨bT,0,none⟩) cl cl) (.slice (some ⟨bD,0,none⟩) n n) lN lO rN rO∧Ib w' bT (s.treat.map (fun x=>clO x cl))∧Ub w' bD (s.list.map (·.does))∧L.Ra w' w.heap.size (.agg #[lN,lO]) rowsL outsL∧L.Hm.Lst nL.length cl (dX nL) (oX oL) rowsL outsL rL∧L.Ra w' w.heap.size (.agg #[rN,rO]) rowsR outsR∧L.Hm.Lst nR.length cl (dX nR) (oX oR) rowsR outsR rR∧Only (fun _=>False) w w'
set_option maxRecDepth 100000 in
set_option maxHeartbeats 8000000 in
theorem segMake_any (s:Rl.St) (B:Nat) (v:Value) (cl n:Nat) (nL:List (List Nat)) (oL:List Nat) (nR:List (List Nat)) (oR:List Nat) (w:World) (hV:Rv w B v s) (hcl:cl=s.cls.length) (hn:n=s.list.length) (h0:0 < cl) (hS:∀ r∈s.list,Rl.Small r.left∧Rl.Small r.right∧Sok r.left∧Sok r.right) (hlf:∀ r∈s.list,∃ op t,r.right=.mk op t []) (hD:∀ r∈s.list,Au.dp r.left≤1000000∧Au.dp r.right≤1000000) (hL:Au.make (s.list.map (·.left)) (cl:Int)=.ok (nL,oL)) (hR:Au.make (s.list.map (·.right)) (cl:Int)=.ok (nR,oR)) :
  Calls Tryz.prog 10 #[v] w (mkP w s cl n nL oL nR oR):=by
 obtain⟨aC,aT,aL,cC,cT,cL,rfl,v1,v2,v3,v4,v5,v6⟩:=hV
 obtain⟨jn,hjn⟩:∃ x,x=s.join:=⟨_,rfl⟩
 obtain⟨af,haf⟩:∃ x,x=s.after:=⟨_,rfl⟩
 have hcl24:cl≤24:=by omega
 have hn24:n≤24:=by omega
 have HSI:Hid (∀ W',Only (fun _=>False) w W'→Calls Tryz.prog 17 #[.slice aL n cL] W' fun e w'=>∃ a1 c1 a2 c2,e=.returned (.tuple #[.slice a1 n c1,.slice a2 n c2])∧Lex w' (fun b=>b < w'.heap.size) (s.list.map (·.left)) a1 c1∧Lex w' (fun b=>b < w'.heap.size) (s.list.map (·.right)) a2 c2∧Only (fun _=>False) W' w'):=fun W' ho=>by
  rw [hn]
  exact sides_any s.list B aL cL W' (v3.only ho (fun _ _ h=>h)) v6 hS
 have HDO:Hid (∀ W',Only (fun _=>False) w W'→Calls Tryz.prog 22 #[.slice aL n cL] W' fun e w'=>∃ b,e=.returned (.slice (some ⟨b,0,none⟩) n n)∧Ub w' b (s.list.map (·.does))∧Only (fun _=>False) W' w'):=fun W' ho=>by
  rw [hn]
  refine (doings_any s.list B aL cL W' (v3.only ho (fun _ _ h=>h)) v6).mono ?_
  rintro e w' ⟨b,h1,_,h2,h3⟩
  exact⟨b,h1,h2,h3⟩
 have HTE:Hid (∀ W',Only (fun _=>False) w W'→Calls Tryz.prog 21 #[.slice aT cl cT,.int .i64 (cl:Int)] W' fun e w'=>∃ b,e=.returned (.slice (some ⟨b,0,none⟩) cl cl)∧Ib w' b (s.treat.map (fun x=>clO x cl))∧Only (fun _=>False) W' w'):=fun W' ho=>by
  have hi:Iw w aT cl s.treat:=by rw [hcl,←v4];exact iw_own v2 rfl
  refine (treated_any s.treat aT cl cT W' (hi.keep ho) hcl24 h0).mono ?_
  rintro e w' ⟨b,h1,_,h2,h3⟩
  exact⟨b,h1,h2,h3⟩
 have HLF:Hid (∀ W' a c,Lex W' (fun b=>b < W'.heap.size) (s.list.map (·.left)) a c→Calls Tryz.prog 18 #[.slice a n c,.int .i64 (cl:Int)] W' (lfP W' cl nL oL)):=fun W' a c h=>by
  have:=leastOf_any (fun b=>b < W'.heap.size) (s.list.map (·.left)) a c cl nL oL W' h (fun b hb=>hb) (fun e he=>by obtain⟨r,hr,rfl⟩:=List.mem_map.1 he;exact (hD r hr).1) hL
  rw [List.length_map,←hn] at this
  exact this
 have HRF:Hid (∀ W' a c,Lex W' (fun b=>b < W'.heap.size) (s.list.map (·.right)) a c→Calls Tryz.prog 18 #[.slice a n c,.int .i64 (cl:Int)] W' (lfP W' cl nR oR)):=fun W' a c h=>by
  have:=leastOf_any (fun b=>b < W'.heap.size) (s.list.map (·.right)) a c cl nR oR W' h (fun b hb=>hb) (fun e he=>by obtain⟨r,hr,rfl⟩:=List.mem_map.1 he;exact (hD r hr).2) hR
  rw [List.length_map,←hn] at this
  exact this
 have HMR:Hid (∀ W' a c,Lex W' (fun b=>b < W'.heap.size) (s.list.map (·.right)) a c→Calls Tryz.prog 19 #[.slice a n c,.int .i64 (cl:Int)] W' fun e w'=>∃ aN nN kN aO nO kO,e=.returned (.tuple #[.agg #[.slice aN nN kN,.slice aO nO kO],.int .i64 0])∧Only (fun _=>False) W' w'):=fun W' a c h=>by
  have:=make_all (fun b=>b < W'.heap.size) (s.list.map (·.right)) a c (cl:Int) W' h (fun b hb=>hb) (fun e he=>by obtain⟨r,hr,rfl⟩:=List.mem_map.1 he;exact (hD r hr).2)
  rw [List.length_map,←hn,hR] at this
  refine this.mono ?_
  rintro e w' ⟨⟨v,h1,h2⟩,ho⟩
  obtain⟨_,vN,vO,rfl,_,q1,q2,_⟩:=h2
  obtain⟨aN,kN,rfl⟩:=L.own_form q1
  obtain⟨aO,kO,rfl⟩:=L.own_form q2
  exact⟨aN,_,kN,aO,_,kO,h1,ho⟩
 have HTU:Hid (∀ W' a c,Lex W' (fun b=>b < W'.heap.size) (s.list.map (·.right)) a c→Calls Tryz.prog 20 #[.slice a n c] W' fun e w'=>∃ b,e=.returned (.slice (some ⟨b,0,none⟩) n n)∧Lex w' (fun b=>b < w'.heap.size) (s.list.map (·.right)) (some ⟨b,0,none⟩) n∧Only (fun _=>False) W' w'):=fun W' a c h=>turned_any _ _ a c n W' h (fun b hb=>hb) (by rw [List.length_map];exact hn) hn24 (fun e he=>by obtain⟨r,hr,rfl⟩:=List.mem_map.1 he;exact hlf r hr)
 have HJ:Hid (jn=s.join∧af=s.after):=⟨hjn,haf⟩
 rw [←hcl,←hn,←hjn,←haf,v4,←hcl]
 have z0:((cl:Int) == 0)=false:=by rw [beq_eq_false_iff_ne];omega
 clear v1 v2 v3 v4 v5 v6 hcl hn hS hlf hD hL hR hjn haf
 go_enter Tryz.func10,Tryz.ntmps10
 go_upto_region 1 with fail
 obtain⟨R,hRR⟩:∃ x,x=w.heap.size:=⟨_,rfl⟩
 obtain⟨w0,hw0⟩:∃ x,x=w.alloc (.cells #[.slice aC cl cC,.int .u32 jn,.int .u32 af,.slice aT cl cT,.slice aL n cL] 45):=⟨_,rfl⟩
 have H0:Hid (Xr w0 R (.slice aC cl cC) (.int .u32 jn) (.int .u32 af) (.slice aT cl cT) (.slice aL n cL)∧Only (fun _=>False) w w0):=by rw [hRR,hw0];exact⟨Xr.new w _ _ _ _ _,(Only.refl _ _).alloc _⟩
 rw [←hw0,←hRR]
 clear hw0 hRR
 have HX:Hid (∀ W',Only (fun _=>False) w0 W'→(W'.cell? ⟨R,0,none⟩=some (.slice aC cl cC)∧W'.cell? ⟨R,1,none⟩=some (.int .u32 jn)∧W'.cell? ⟨R,2,none⟩=some (.int .u32 af)∧W'.cell? ⟨R,3,none⟩=some (.slice aT cl cT)∧W'.cell? ⟨R,4,none⟩=some (.slice aL n cL))∧R < W'.heap.size):=fun W' ho=>by
  have h:=H0.out.1.only ho (fun h=>h)
  exact⟨⟨h.c0,h.c1,h.c2,h.c3,h.c4⟩,(Array.getElem?_eq_some_iff.1 h).1⟩
 obtain⟨⟨r0,r1,r2,r3,r4⟩,lR⟩:=HX.out w0 (Only.refl _ _)
 go_wp2_with fail
 refine Calls.mono (HSI.out _ H0.out.2) ?_
 rintro e w1 ⟨a1,c1,a2,c2,rfl,hl1,hl2,ho1⟩
 have H1:Hid (Lex w1 (fun b=>b < w1.heap.size) (s.list.map (·.left)) a1 c1∧Lex w1 (fun b=>b < w1.heap.size) (s.list.map (·.right)) a2 c2∧Only (fun _=>False) w0 w1):=⟨hl1,hl2,ho1⟩
 clear hl1 hl2 ho1 r0 r1 r2 r3 r4 lR
 go_wp2_with fail
 refine Calls.mono (HLF.out _ _ _ H1.out.1) ?_
 rintro e w2 ⟨vl,rowsL,outsL,rL,rfl,hra,hls,ho2⟩
 have hra':=hra
 obtain⟨vlN,vlO,rwl,rfl,hrl,hX,_,hO⟩:=hra
 obtain⟨aX,kX,rfl⟩:=L.own_form hX
 obtain⟨aY,kY,rfl⟩:=L.own_form hO
 obtain⟨nX,hnX⟩:∃ x,x=rwl.length:=⟨_,rfl⟩
 obtain⟨nY,hnY⟩:∃ x,x=outsL.length:=⟨_,rfl⟩
 rw [←hnX,←hnY] at hra' ⊢
 have H2:Hid (L.Ra w2 w1.heap.size (.agg #[.slice aX nX kX,.slice aY nY kY]) rowsL outsL∧L.Hm.Lst nL.length cl (dX nL) (oX oL) rowsL outsL rL∧Only (fun _=>False) w1 w2):=⟨hra',hls,ho2⟩
 clear hra' hls ho2 hX hO hrl hnX hnY
 go_upto_region 6 with fail
 obtain⟨lb,hlb⟩:∃ x,x=w2.heap.size:=⟨_,rfl⟩
 obtain⟨w3,hw3⟩:∃ x,x=w2.alloc (.cells #[.slice aX nX kX,.slice aY nY kY] 63):=⟨_,rfl⟩
 have H3:Hid (w3.heap[lb]?=some (.cells #[.slice aX nX kX,.slice aY nY kY] 63 (0,0))∧Only (fun _=>False) w2 w3):=by rw [hw3,hlb];exact⟨heap_alloc_new _ _,(Only.refl _ _).alloc _⟩
 rw [←hw3,←hlb]
 clear hw3 hlb
 have HR3:Hid (Lex w3 (fun b=>b < w3.heap.size) (s.list.map (·.right)) a2 c2):=lex_grow H1.out.2.1 (H2.out.2.2.trans H3.out.2)
 go_wp2_with fail
 refine Calls.mono (HMR.out _ _ _ HR3.out) ?_
 rintro e w4 ⟨aN,nN,kN,aO,nO,kO,rfl,ho4⟩
 have H4:Hid (Only (fun _=>False) w3 w4):=ho4
 clear ho4
 go_upto_region 9 with fail
 obtain⟨w5,hw5⟩:∃ x,x=w4.alloc (.cells #[.slice aN nN kN,.slice aO nO kO] 63):=⟨_,rfl⟩
 have H5:Hid (Only (fun _=>False) w3 w5):=by rw [hw5];exact H4.out.alloc _
 rw [←hw5]
 clear hw5 H4
 have HR5:Hid (Lex w5 (fun b=>b < w5.heap.size) (s.list.map (·.right)) a2 c2):=lex_grow HR3.out H5.out
 go_wp2_with fail
 refine Calls.mono (HTU.out _ _ _ HR5.out) ?_
 rintro e w6 ⟨tb,rfl,hlt,ho6⟩
 have H6:Hid (Lex w6 (fun b=>b < w6.heap.size) (s.list.map (·.right)) (some ⟨tb,0,none⟩) n∧Only (fun _=>False) w5 w6):=⟨hlt,ho6⟩
 clear hlt ho6
 go_wp2_with fail
 refine Calls.mono (HRF.out _ _ _ H6.out.1) ?_
 rintro e w7 ⟨vr,rowsR,outsR,rR,rfl,hra,hls,ho7⟩
 have hra':=hra
 obtain⟨vrN,vrO,rwr,rfl,hrl,hX,_,hO⟩:=hra
 obtain⟨aZ,kZ,rfl⟩:=L.own_form hX
 obtain⟨aW,kW,rfl⟩:=L.own_form hO
 obtain⟨nZ,hnZ⟩:∃ x,x=rwr.length:=⟨_,rfl⟩
 obtain⟨nW,hnW⟩:∃ x,x=outsR.length:=⟨_,rfl⟩
 rw [←hnZ,←hnW] at hra' ⊢
 have H7:Hid (L.Ra w7 w6.heap.size (.agg #[.slice aZ nZ kZ,.slice aW nW kW]) rowsR outsR∧L.Hm.Lst nR.length cl (dX nR) (oX oR) rowsR outsR rR∧Only (fun _=>False) w6 w7):=⟨hra',hls,ho7⟩
 clear hra' hls ho7 hX hO hrl hnZ hnW
 go_upto_region 12 with fail
 obtain⟨rb,hrb⟩:∃ x,x=w7.heap.size:=⟨_,rfl⟩
 obtain⟨w8,hw8⟩:∃ x,x=w7.alloc (.cells #[.slice aZ nZ kZ,.slice aW nW kW] 63):=⟨_,rfl⟩
 have H8:Hid (w8.heap[rb]?=some (.cells #[.slice aZ nZ kZ,.slice aW nW kW] 63 (0,0))∧Only (fun _=>False) w7 w8):=by rw [hw8,hrb];exact⟨heap_alloc_new _ _,(Only.refl _ _).alloc _⟩
 rw [←hw8,←hrb]
 clear hw8 hrb
 have H38:Hid (Only (fun _=>False) w3 w8):=H5.out.trans (H6.out.2.trans (H7.out.2.2.trans H8.out.2))
 have H08:Hid (Only (fun _=>False) w0 w8∧Only (fun _=>False) w w8):=by
  have h:=H1.out.2.2.trans (H2.out.2.2.trans (H3.out.2.trans H38.out))
  exact⟨h,H0.out.2.trans h⟩
 go_upto_region 14 with fail
 have HSS:Hid (∀ W',Only (fun _=>False) w8 W'→(fun W'=>(W'.cell? ⟨R,0,none⟩=some (.slice aC cl cC)∧W'.cell? ⟨R,1,none⟩=some (.int .u32 jn)∧W'.cell? ⟨R,2,none⟩=some (.int .u32 af)∧W'.cell? ⟨R,3,none⟩=some (.slice aT cl cT)∧W'.cell? ⟨R,4,none⟩=some (.slice aL n cL))∧(W'.cell? ⟨lb,0,none⟩=some (.slice aX nX kX)∧W'.cell? ⟨lb,1,none⟩=some (.slice aY nY kY))∧(W'.cell? ⟨rb,0,none⟩=some (.slice aZ nZ kZ)∧W'.cell? ⟨rb,1,none⟩=some (.slice aW nW kW))) W'):=fun W' ho=>by
  have hl:W'.heap[lb]?=some (.cells #[.slice aX nX kX,.slice aY nY kY] 63 (0,0)):=(ho.block lb (Nat.lt_of_lt_of_le (Array.getElem?_eq_some_iff.1 H3.out.1).1 H38.out.size) (fun h=>h)).trans ((H38.out.block lb (Array.getElem?_eq_some_iff.1 H3.out.1).1 (fun h=>h)).trans H3.out.1)
  have hr:W'.heap[rb]?=some (.cells #[.slice aZ nZ kZ,.slice aW nW kW] 63 (0,0)):=(ho.block rb (Array.getElem?_eq_some_iff.1 H8.out.1).1 (fun h=>h)).trans H8.out.1
  exact⟨(HX.out W' (H08.out.1.trans ho)).1,⟨cell_blk hl,cell_blk hl⟩,cell_blk hr,cell_blk hr⟩
 have HD:Hid (Only (fun _=>False) w8 w8.drew):=(Only.refl _ _).drew
 refine wp_region_held_drew (S:=(fun W'=>(W'.cell? ⟨R,0,none⟩=some (.slice aC cl cC)∧W'.cell? ⟨R,1,none⟩=some (.int .u32 jn)∧W'.cell? ⟨R,2,none⟩=some (.int .u32 af)∧W'.cell? ⟨R,3,none⟩=some (.slice aT cl cT)∧W'.cell? ⟨R,4,none⟩=some (.slice aL n cL))∧(W'.cell? ⟨lb,0,none⟩=some (.slice aX nX kX)∧W'.cell? ⟨lb,1,none⟩=some (.slice aY nY kY))∧(W'.cell? ⟨rb,0,none⟩=some (.slice aZ nZ kZ)∧W'.cell? ⟨rb,1,none⟩=some (.slice aW nW kW)))) (by kernel_rfl) (HSS.out _ HD.out) (fun hHeld=>?_)
 refine wpAnyH_take (i:=0) (oi:={ dst:=some 51,op:=_,type:=_,pos:=_,after:=_,guard:=_ }) (v:=.pointer (some ⟨R,1,none⟩)) rfl (by kernel_rfl) (by kernel_rfl) (by kernel_rfl) (fun _ _ _ h=>h) (Or.inl ⟨by rfl,fun w hSw=>by obtain⟨⟨y0,y1,y2,y3,y4⟩,⟨y5,y6⟩,y7,y8⟩:=hSw;first | (go_simp;done) | go_simp⟩) (by assumption) ?_
 (try simp only [Act.put,List.setIfInBounds_toArray,List.set_cons_zero,List.set_cons_succ])
 refine wpAnyH_take (i:=1) (oi:={ dst:=some 52,op:=_,type:=_,pos:=_,after:=_,guard:=_ }) (v:=.int .u32 jn) rfl (by kernel_rfl) (by kernel_rfl) (by kernel_rfl) (fun _ _ _ h=>h) (Or.inl ⟨by rfl,fun w hSw=>by obtain⟨⟨y0,y1,y2,y3,y4⟩,⟨y5,y6⟩,y7,y8⟩:=hSw;first | (go_simp;done) | go_simp⟩) (by assumption) ?_
 (try simp only [Act.put,List.setIfInBounds_toArray,List.set_cons_zero,List.set_cons_succ])
 refine wpAnyH_take (i:=2) (oi:={ dst:=some 53,op:=_,type:=_,pos:=_,after:=_,guard:=_ }) (v:=.pointer (some ⟨R,2,none⟩)) rfl (by kernel_rfl) (by kernel_rfl) (by kernel_rfl) (fun _ _ _ h=>h) (Or.inl ⟨by rfl,fun w hSw=>by obtain⟨⟨y0,y1,y2,y3,y4⟩,⟨y5,y6⟩,y7,y8⟩:=hSw;first | (go_simp;done) | go_simp⟩) (by assumption) ?_
 (try simp only [Act.put,List.setIfInBounds_toArray,List.set_cons_zero,List.set_cons_succ])
 refine wpAnyH_take (i:=3) (oi:={ dst:=some 54,op:=_,type:=_,pos:=_,after:=_,guard:=_ }) (v:=.int .u32 af) rfl (by kernel_rfl) (by kernel_rfl) (by kernel_rfl) (fun _ _ _ h=>h) (Or.inl ⟨by rfl,fun w hSw=>by obtain⟨⟨y0,y1,y2,y3,y4⟩,⟨y5,y6⟩,y7,y8⟩:=hSw;first | (go_simp;done) | go_simp⟩) (by assumption) ?_
 (try simp only [Act.put,List.setIfInBounds_toArray,List.set_cons_zero,List.set_cons_succ])
 refine wpAnyH_take (i:=4) (oi:={ dst:=some 55,op:=_,type:=_,pos:=_,after:=_,guard:=_ }) (v:=.pointer (some ⟨R,3,none⟩)) rfl (by kernel_rfl) (by kernel_rfl) (by kernel_rfl) (fun _ _ _ h=>h) (Or.inl ⟨by rfl,fun w hSw=>by obtain⟨⟨y0,y1,y2,y3,y4⟩,⟨y5,y6⟩,y7,y8⟩:=hSw;first | (go_simp;done) | go_simp⟩) (by assumption) ?_
 (try simp only [Act.put,List.setIfInBounds_toArray,List.set_cons_zero,List.set_cons_succ])
 refine wpAnyH_take (i:=5) (oi:={ dst:=some 56,op:=_,type:=_,pos:=_,after:=_,guard:=_ }) (v:=.slice aT cl cT) rfl (by kernel_rfl) (by kernel_rfl) (by kernel_rfl) (fun _ _ _ h=>h) (Or.inl ⟨by rfl,fun w hSw=>by obtain⟨⟨y0,y1,y2,y3,y4⟩,⟨y5,y6⟩,y7,y8⟩:=hSw;first | (go_simp;done) | go_simp⟩) (by assumption) ?_
 (try simp only [Act.put,List.setIfInBounds_toArray,List.set_cons_zero,List.set_cons_succ])
 refine wpAnyH_take (i:=6) (oi:={ dst:=some 57,op:=_,type:=_,pos:=_,after:=_,guard:=_ }) (v:=.int .i64 (cl:Int)) rfl (by kernel_rfl) (by kernel_rfl) (by kernel_rfl) (fun _ _ _ h=>h) (Or.inl ⟨by rfl,fun w hSw=>by obtain⟨⟨y0,y1,y2,y3,y4⟩,⟨y5,y6⟩,y7,y8⟩:=hSw;first | (go_simp;done) | go_simp⟩) (by assumption) ?_
 (try simp only [Act.put,List.setIfInBounds_toArray,List.set_cons_zero,List.set_cons_succ])
 refine wpAnyH_take (i:=8) (oi:={ dst:=some 59,op:=_,type:=_,pos:=_,after:=_,guard:=_ }) (v:=.pointer (some ⟨R,4,none⟩)) rfl (by kernel_rfl) (by kernel_rfl) (by kernel_rfl) (fun _ _ _ h=>h) (Or.inl ⟨by rfl,fun w hSw=>by obtain⟨⟨y0,y1,y2,y3,y4⟩,⟨y5,y6⟩,y7,y8⟩:=hSw;first | (go_simp;done) | go_simp⟩) (by assumption) ?_
 (try simp only [Act.put,List.setIfInBounds_toArray,List.set_cons_zero,List.set_cons_succ])
 refine wpAnyH_take (i:=9) (oi:={ dst:=some 60,op:=_,type:=_,pos:=_,after:=_,guard:=_ }) (v:=.slice aL n cL) rfl (by kernel_rfl) (by kernel_rfl) (by kernel_rfl) (fun _ _ _ h=>h) (Or.inl ⟨by rfl,fun w hSw=>by obtain⟨⟨y0,y1,y2,y3,y4⟩,⟨y5,y6⟩,y7,y8⟩:=hSw;first | (go_simp;done) | go_simp⟩) (by assumption) ?_
 (try simp only [Act.put,List.setIfInBounds_toArray,List.set_cons_zero,List.set_cons_succ])
 refine wpAnyH_take (i:=11) (oi:={ dst:=some 62,op:=_,type:=_,pos:=_,after:=_,guard:=_ }) (v:=.agg #[.slice aX nX kX,.slice aY nY kY]) rfl (by kernel_rfl) (by kernel_rfl) (by kernel_rfl) (fun _ _ _ h=>h) (Or.inl ⟨by rfl,fun w hSw=>by obtain⟨⟨y0,y1,y2,y3,y4⟩,⟨y5,y6⟩,y7,y8⟩:=hSw;first | (go_simp;done) | go_simp⟩) (by assumption) ?_
 (try simp only [Act.put,List.setIfInBounds_toArray,List.set_cons_zero,List.set_cons_succ])
 refine wpAnyH_take (i:=12) (oi:={ dst:=some 63,op:=_,type:=_,pos:=_,after:=_,guard:=_ }) (v:=.agg #[.slice aZ nZ kZ,.slice aW nW kW]) rfl (by kernel_rfl) (by kernel_rfl) (by kernel_rfl) (fun _ _ _ h=>h) (Or.inl ⟨by rfl,fun w hSw=>by obtain⟨⟨y0,y1,y2,y3,y4⟩,⟨y5,y6⟩,y7,y8⟩:=hSw;first | (go_simp;done) | go_simp⟩) (by assumption) ?_
 (try simp only [Act.put,List.setIfInBounds_toArray,List.set_cons_zero,List.set_cons_succ])
 refine wpAnyH_ready (rs:=[7]) (by kernel_rfl) (by simp) ?_
 refine AllReadyH.cons rfl (fun K hK=>?_) AllReadyH.nil
 rw [if_pos (by rfl)]
 go_simp
 refine Calls.mono (HTE.out _ (H08.out.2.trans HD.out)) ?_
 rintro e y1 ⟨bT,rfl,hbT,ho⟩
 have G1:Hid (Ib y1 bT (s.treat.map (fun x=>clO x cl))∧Only (fun _=>False) w8 y1):=⟨hbT,HD.out.trans ho⟩
 clear hbT ho
 refine hK.out _ _ (HSS.out _ G1.out.2) (fun hHeld=>?_)
 clear hK
 (try simp only [Act.put,List.setIfInBounds_toArray,List.set_cons_zero,List.set_cons_succ])
 refine wpAnyH_ready (rs:=[10]) (by kernel_rfl) (by simp) ?_
 refine AllReadyH.cons rfl (fun K hK=>?_) AllReadyH.nil
 rw [if_pos (by rfl)]
 go_simp
 refine Calls.mono (HDO.out _ (H08.out.2.trans G1.out.2)) ?_
 rintro e y2 ⟨bD,rfl,hbD,ho⟩
 have G2:Hid (Ub y2 bD (s.list.map (·.does))∧Only (fun _=>False) y1 y2∧Only (fun _=>False) w8 y2):=⟨hbD,ho,G1.out.2.trans ho⟩
 clear hbD ho
 refine hK.out _ _ (HSS.out _ G2.out.2.2) (fun hHeld=>?_)
 clear hK
 (try simp only [Act.put,List.setIfInBounds_toArray,List.set_cons_zero,List.set_cons_succ])
 refine wpAnyH_take (i:=13) (oi:={ dst:=some 64,op:=_,type:=_,pos:=_,after:=_,guard:=_ }) (v:=.agg #[.int .u32 jn,.int .u32 af,.slice (some ⟨bT,0,none⟩) cl cl,.slice (some ⟨bD,0,none⟩) n n,.slice aX nX kX,.slice aY nY kY,.slice aZ nZ kZ,.slice aW nW kW]) rfl (by kernel_rfl) (by kernel_rfl) (by kernel_rfl) (fun _ _ _ h=>h) (Or.inl ⟨by rfl,fun w hSw=>by obtain⟨⟨y0,y1,y2,y3,y4⟩,⟨y5,y6⟩,y7,y8⟩:=hSw;first | (go_simp;done) | go_simp⟩) (by assumption) ?_
 (try simp only [Act.put,List.setIfInBounds_toArray,List.set_cons_zero,List.set_cons_succ])
 refine wpAnyH_ready (rs:=[14]) (by kernel_rfl) (by simp) ?_
 refine AllReadyH.cons rfl (fun K hK=>?_) AllReadyH.nil
 rw [if_pos (by rfl)]
 go_simp
 obtain⟨y3,hy3⟩:∃ Z,Z=y2.alloc (.cells #[.int .u32 jn,.int .u32 af,.slice (some ⟨bT,0,none⟩) cl cl,.slice (some ⟨bD,0,none⟩) n n,.slice aX nX kX,.slice aY nY kY,.slice aZ nZ kZ,.slice aW nW kW] 70):=⟨_,rfl⟩
 obtain⟨mb,hmb⟩:∃ z,z=y2.heap.size:=⟨_,rfl⟩
 have G3:Hid (Mz y3 mb jn af (.slice (some ⟨bT,0,none⟩) cl cl) (.slice (some ⟨bD,0,none⟩) n n) (.slice aX nX kX) (.slice aY nY kY) (.slice aZ nZ kZ) (.slice aW nW kW)∧Only (fun _=>False) y2 y3∧Only (fun _=>False) w8 y3):=by rw [hy3,hmb];exact⟨heap_alloc_new _ _,(Only.refl _ _).alloc _,G2.out.2.2.alloc _⟩
 rw [←hy3,←hmb]
 clear hy3 hmb
 refine hK.out _ _ (HSS.out _ G3.out.2.2) (fun hHeld=>?_)
 clear hK
 (try simp only [Act.put,List.setIfInBounds_toArray,List.set_cons_zero,List.set_cons_succ])
 refine wpAnyH_take (i:=15) (oi:={ dst:=some 2,op:=_,type:=_,pos:=_,after:=_,guard:=_ }) (v:=.pointer (some ⟨mb,0,none⟩)) rfl (by kernel_rfl) (by kernel_rfl) (by kernel_rfl) (fun _ _ _ h=>h) (Or.inl ⟨by rfl,fun w hSw=>by obtain⟨⟨y0,y1,y2,y3,y4⟩,⟨y5,y6⟩,y7,y8⟩:=hSw;first | (go_simp;done) | go_simp⟩) (by assumption) ?_
 (try simp only [Act.put,List.setIfInBounds_toArray,List.set_cons_zero,List.set_cons_succ])
 refine wpAnyH_take (i:=16) (oi:={ dst:=some 3,op:=_,type:=_,pos:=_,after:=_,guard:=_ }) (v:=.int .i64 0) rfl (by kernel_rfl) (by kernel_rfl) (by kernel_rfl) (fun _ _ _ h=>h) (Or.inl ⟨by rfl,fun w hSw=>by obtain⟨⟨y0,y1,y2,y3,y4⟩,⟨y5,y6⟩,y7,y8⟩:=hSw;first | (go_simp;done) | go_simp⟩) (by assumption) ?_
 (try simp only [Act.put,List.setIfInBounds_toArray,List.set_cons_zero,List.set_cons_succ])
 refine wpAnyH_done (by kernel_rfl) ?_ _
 clear hHeld
 go_wp2_with fail
 go_ret2
 have q28:L.Only (fun _=>False) w2 y3:=L_only (H3.out.2.trans (H38.out.trans G3.out.2.2))
 have q78:L.Only (fun _=>False) w7 y3:=L_only (H8.out.2.trans G3.out.2.2)
 have s1:w.heap.size≤w1.heap.size:=(H0.out.2.trans H1.out.2.2).size
 have s6:w.heap.size≤w6.heap.size:=Nat.le_trans s1 (Nat.le_trans (H2.out.2.2.trans (H3.out.2.trans (H5.out.trans H6.out.2))).size (Nat.le_refl _))
 exact⟨mb,bT,bD,_,_,_,_,rowsL,outsL,rL,rowsR,outsR,rR,rfl,by rw [←HJ.out.1,←HJ.out.2];exact G3.out.1,Ib.keep0 G1.out.1 (G2.out.2.1.trans G3.out.2.1),Ub.keep0 G2.out.1 G3.out.2.1,(H2.out.1.keep q28).low s1,H2.out.2.1,(H7.out.1.keep q78).low s6,H7.out.2.1,H08.out.2.trans G3.out.2.2⟩
end Go.Proofs.YtchaoonefiamdaaGreatDoor
