/-
 SegLocal's walk.
-/
import Derived.Test.YtchaoonefiamdaaGreatDoorX48
namespace Go.Proofs.YtchaoonefiamdaaGreatDoor
open Go.RowKit Go.Maps
set_option linter.unusedVariables false
set_option linter.unusedSimpArgs false
open List (setIfInBounds_toArray set_cons_zero set_cons_succ)
namespace Lo9
theorem txt_snoc (ds:Nat→Nat):∀ n i,txt ds i (n+1)=txt ds i n++(if ds (i+n) < 3 then lin (ds (i+n)) ((i+n) / 3) ((i+n)%3) else [])
 | 0,i=>by
  show (if ds i < 3 then lin (ds i) (i / 3) (i%3) else [])++[]=[]++_
  rw [List.append_nil,List.nil_append]
  rfl
 | n+1,i=>by
  rw [txt,txt_snoc ds n (i+1),txt,List.append_assoc,show i+1+n=i+(n+1) by omega]
def wnt (ds:Nat→Nat) (q:Nat):Nat:=if ds q < 3 then ds q else 1
def wns (ds:Nat→Nat) (j:Nat):List Int:=(List.range 9).map (fun q=>if q < j then ((wnt ds q:Nat):Int) else 0)
theorem wns_len (ds:Nat→Nat) (j:Nat):(wns ds j).length=9:=by simp [wns]
theorem wns_at (ds:Nat→Nat) {j q:Nat} (hq:q < 9):(wns ds j)[q]?=some (if q < j then ((wnt ds q:Nat):Int) else 0):=by
 unfold wns
 rw [List.getElem?_map,List.getElem?_range hq]
 rfl
theorem wns_set (ds:Nat→Nat) {j:Nat} (hj:j < 9) (v:Int) (hv:v=((wnt ds j:Nat):Int)):(wns ds j).set j v=wns ds (j+1):=by
 apply List.ext_getElem?
 intro q
 rw [List.getElem?_set]
 by_cases e:j=q
 ·subst e
  rw [if_pos rfl,if_pos (by rw [wns_len];exact hj),wns_at ds hj,if_pos (by omega),hv]
 ·rw [if_neg e]
  by_cases hq:q < 9
  ·rw [wns_at ds hq,wns_at ds hq]
   by_cases h:q < j
   ·rw [if_pos h,if_pos (by omega)]
   ·rw [if_neg h,if_neg (by omega)]
  ·rw [List.getElem?_eq_none (by rw [wns_len];omega),List.getElem?_eq_none (by rw [wns_len];omega)]
theorem wns_set2 (ds:Nat→Nat) {j:Nat} (hj:j < 9) (u v:Int) (hv:v=((wnt ds j:Nat):Int)):((wns ds j).set j u).set j v=wns ds (j+1):=by rw [List.set_set,wns_set ds hj v hv]
def Wb (w:World) (b:Nat) (l:List Int):Prop:=w.heap[b]?=some (.cells (u8a l) 27 (0,0))
theorem Wb.keep {w w':World} {b:Nat} {l:List Int} (h:Wb w b l) (ho:Only (fun _=>False) w w'):Wb w' b l:=(ho.block b (Array.getElem?_eq_some_iff.1 h).1 (fun h=>h)).trans h
theorem Wb.set {w:World} {b:Nat} {l:List Int} (h:Wb w b l) (i:Nat) (x:Int):Wb (w.setCell ⟨b,i,none⟩ (.int .u8 x)) b (l.set i x):=by
 unfold Wb
 rw [heap_setCell_at h,u8a_set]
theorem Wb.lt {w:World} {b:Nat} {l:List Int} (h:Wb w b l):b < w.heap.size:=(Array.getElem?_eq_some_iff.1 h).1
theorem Wb.cell {w:World} {b i:Nat} {x:Int} {l:List Int} (h:Wb w b l) (hx:l[i]?=some x):w.cell? ⟨b,i,none⟩=some (.int .u8 x):=by
 rw [cell_blk h,u8a_at,hx]
 rfl
theorem Wb.fz {w:World} {b:Nat} {l:List Int} (h:Wb w b l) (i:Nat):w.frozen? ⟨b,i,none⟩=false:=fz_blk h i
def ws (d:Nat):ByteArray:=if d=0 then ⟨#[107,101,101,112,32]⟩ else if d=1 then ⟨#[109,97,121,32]⟩ else ⟨#[109,117,115,116,32]⟩
theorem ws_len (d:Nat):(ws d).size≤5:=by
 unfold ws
 split
 ·decide
 ·split <;> decide
theorem ws_at {w:World} {g d:Nat} (h:w.heap[g]?=some (.cells #[.string ⟨#[107,101,101,112,32]⟩,.string ⟨#[109,97,121,32]⟩,.string ⟨#[109,117,115,116,32]⟩] 9 (0,0))) (hd:d < 3):w.cell? ⟨g,d,none⟩=some (.string (ws d)):=by
 rw [cell_blk h]
 rcases (show d=0∨d=1∨d=2 by omega) with rfl | rfl | rfl <;> rfl
theorem conv8 {w:World} {g c:Nat} (h:w.heap[g]?=some (.cells #[.int .u8 (c:Int)] 5 (0,0))) (hc:c < 256):(convert 22 9 (.slice (some ⟨g,0,none⟩) 1 1)).run Tryz.prog w=.ok (.string ⟨#[c.toUInt8]⟩) w:=by
 have h1:=run_convert_bytes_back (P:=Tryz.prog) w 22 9 5 ⟨g,0,none⟩ 1 [c.toUInt8] Tryz.underlying22 Tryz.underlying5 Tryz.underlying9
 exact h1 (by
  intro j hj
  obtain rfl:j=0:=by simpa using hj
  rw [Addr.add_mid]
  simp only [List.getElem_cons_zero]
  have e:((c.toUInt8.toNat:Nat):Int)=(c:Int):=by
   rw [show c.toUInt8.toNat=c%256 from rfl]
   omega
  rw [e]
  exact (cell_blk h).trans rfl)
theorem ws_lin {d a b:Nat} (hd:d < 3) (ha:a < 3) (hb:b < 3):(((ws d++⟨#[(65+a).toUInt8]⟩)++⟨#[32,47,32]⟩)++⟨#[(65+b).toUInt8]⟩)++⟨#[59]⟩=(⟨(lin d a b).toArray⟩:ByteArray):=by
 rcases (show d=0∨d=1∨d=2 by omega) with rfl | rfl | rfl <;> rcases (show a=0∨a=1∨a=2 by omega) with rfl | rfl | rfl <;> rcases (show b=0∨b=1∨b=2 by omega) with rfl | rfl | rfl <;> rfl
theorem ba_app (x y:Rl.Str):(⟨x.toArray⟩:ByteArray)++⟨y.toArray⟩=⟨(x++y).toArray⟩:=by
 apply ByteArray.ext
 simp
def BA (w:World) (g:Nat):Prop:=w.heap[g]?=some (.cells #[.string ⟨#[107,101,101,112,32]⟩,.string ⟨#[109,97,121,32]⟩,.string ⟨#[109,117,115,116,32]⟩] 9 (0,0))
def BC (w:World) (g c:Nat):Prop:=w.heap[g]?=some (.cells #[.int .u8 (c:Int)] 5 (0,0))
theorem BA.keep {w w':World} {g:Nat} (h:BA w g) (ho:Only (fun _=>False) w w'):BA w' g:=(ho.block g (Array.getElem?_eq_some_iff.1 h).1 (fun h=>h)).trans h
theorem BC.keep {w w':World} {g c:Nat} (h:BC w g c) (ho:Only (fun _=>False) w w'):BC w' g c:=(ho.block g (Array.getElem?_eq_some_iff.1 h).1 (fun h=>h)).trans h
theorem hmo {P:Program} {md:Region.Mode} {ops:Array Oper} {Q:Exit→Act→World→Prop} {S S':World→Prop} (hS:∀ w,S' w→S w):∀ (fuel:Nat) (listed:Array Bool) (a:Act) (w:World),wpAnyH P md ops Q S' fuel listed a w→wpAnyH P md ops Q S fuel listed a w
 | 0,_,_,_,h=>h
 | fuel+1,_,_,_,h=>⟨h.1,fun i hi=>wpOp_mono (fun a' w' h'=>⟨hS w' h'.1,hmo hS fuel _ a' w' h'.2⟩) (h.2 i hi)⟩
theorem rls_len (ds:Nat→Nat):∀ n i,(rls ds i n).length≤n
 | 0,i=>Nat.le_refl _
 | n+1,i=>by
  rw [rls,List.length_append]
  have:=rls_len ds n (i+1)
  by_cases h:ds i < 3
  ·rw [if_pos h];simp only [List.length_cons,List.length_nil];omega
  ·rw [if_neg h];simp only [List.length_nil];omega
theorem rls_ok (ds:Nat→Nat):∀ n i,i+n≤9→∀ t∈rls ds i n,(0≤t.2.1∧t.2.1 < 4294967296)∧0≤t.2.2∧t.2.2 < 4294967296
 | 0,i,_,t,ht=>by cases ht
 | n+1,i,hi,t,ht=>by
  have p:∀ x,x < 3→(0≤(2:Int) ^ x∧(2:Int) ^ x < 4294967296):=by decide
  rw [rls] at ht
  rcases List.mem_append.1 ht with h | h
  ·by_cases hd:ds i < 3
   ·rw [if_pos hd] at h
    rw [List.mem_singleton.1 h]
    exact⟨p _ (by omega),p _ (by omega)⟩
   ·rw [if_neg hd] at h
    cases h
  ·exact rls_ok ds n (i+1) (by omega) t h
theorem read_loc (ds:Nat→Nat):∃ (st:Rl.St) (n:Nat) (nL:List (List Nat)) (oL:List Nat) (nR:List (List Nat)) (oR:List Nat),st.list=(rls ds 0 9).map ruleOf∧st.join=0∧st.after=0∧st.treat=(List.range 3).map (fun (q:Nat)=>(q:Int))∧n=st.list.length∧n≤9∧Au.make (st.list.map (·.left)) ((3:Nat):Int)=.ok (nL,oL)∧Au.make (st.list.map (·.right)) ((3:Nat):Int)=.ok (nR,oR)∧∀ w:World,Calls Tryz.prog 6 #[.string ⟨(tx9 ds).toArray⟩] w fun e w'=>∃ mb,e=.returned (.tuple #[.pointer (some ⟨mb,0,none⟩),.agg #[.int .i64 0,.int .i64 0]])∧Mac w' (w.heap.size+1) mb st 3 n nL oL nR oR∧Only (fun _=>False) w w':=by
 obtain⟨pl,hr⟩:=read9 ds
 obtain⟨⟨nL,oL,hL⟩,nR,oR,hR⟩:=make9 ds
 obtain⟨st,hst⟩:∃ st:Rl.St,st=⟨[[65],[66],[67]],[0,1,2],0,0,env3,pl,(rls ds 0 9).map ruleOf⟩:=⟨_,rfl⟩
 have hl:st.list=(rls ds 0 9).map ruleOf:=by rw [hst]
 have hone:∀ r∈st.list,∃ t,r=ruleOf t∧(0≤t.2.1∧t.2.1 < 4294967296)∧0≤t.2.2∧t.2.2 < 4294967296:=fun r hr=>by
  rw [hl] at hr
  obtain⟨t,ht,e⟩:=List.mem_map.1 hr
  exact⟨t,e.symm,rls_ok ds 9 0 (by decide) t ht⟩
 rw [←hst] at hr
 rw [←hl] at hL hR
 refine⟨st,st.list.length,nL,oL,nR,oR,hl,by rw [hst],by rw [hst],by rw [hst];rfl,rfl,by rw [hl,List.length_map];exact rls_len ds 9 0,hL,hR,fun w=>segRead_any _ st 3 st.list.length _ _ _ _ w hr (by rw [hst];rfl) rfl (by decide) (fun r hr'=>?_) (fun r hr'=>?_) (fun r hr'=>?_) hL hR⟩
 ·have:=(rd_small hr).2 r hr'
  obtain⟨t,e,hk⟩:=hone r hr'
  refine⟨this.1,this.2,?_⟩
  rw [e]
  simp [ruleOf,Sok,Soks]
  exact hk
 ·obtain⟨t,e,_⟩:=hone r hr'
  exact⟨1,t.2.2,by rw [e];rfl⟩
 ·obtain⟨t,e,_⟩:=hone r hr'
  rw [e]
  simp [ruleOf,Au.dp,Au.dps]
def m3 (x:Int):Nat:=((IntKind.u64.wrap x).tmod 3).toNat
theorem m3_ok (x:Int):m3 x < 3∧(IntKind.u64.wrap x).tmod 3=((m3 x:Nat):Int):=by
 have h0:0≤IntKind.u64.wrap x:=by rw [IntKind.wrap_u64];omega
 have e:(IntKind.u64.wrap x).tmod 3=(IntKind.u64.wrap x)%3:=Int.tmod_eq_emod_of_nonneg h0
 unfold m3
 rw [e]
 omega
def cM (L:List Int):List Int:=L.map (fun x=>((m3 x:Nat):Int))
theorem says9 {ds:Nat→Nat} {C:List Int} {i a b:Nat} {v:Int} (h0:0 < i) (hi:i < C.length) (ha:C[i-1]?=some (a:Int)) (hb:C[i]?=some (b:Int)) (ha3:a < 3) (hb3:b < 3) (h:first1 ((rls ds 0 9).map ruleOf) C i v):v=((wnt ds (a*3+b):Nat):Int):=by
 rw [first1_fs h0 hi ha hb _ v h,fs_rls ds ha3 hb3 9 0 (by decide),show 3*a+b=a*3+b by omega]
 unfold wnt
 by_cases hd:ds (a*3+b) < 3
 ·rw [if_pos ⟨Nat.zero_le _,by omega,hd⟩,if_pos hd]
 ·rw [if_neg (fun q=>hd q.2.2),if_neg hd]
  rfl
def dsO (Ds:List Nat) (i:Nat):Nat:=if i < Ds.length then Ds.getD i 0%4 else 3
set_option maxRecDepth 100000 in
set_option maxHeartbeats 8000000 in
theorem segLocal_any (aD:Option Addr) (nD cD:Nat) (Ds:List Nat) (aB:Option Addr) (nB cB:Nat) (Bs:List Int) (w:World) (hD:Uw w aD nD Ds) (hB:Iw w aB nB Bs) (hT:Tz w) (hDc:nD≤cD) (hDm:cD≤maxLen) :
  Calls Tryz.prog 3 #[.slice aD nD cD,.slice aB nB cB] w fun e w'=>e=.returned (.bool true)∧Only (fun _=>False) w w':=by
 have HAW:Hid (Calls Tryz.prog 5 #[] w fun e w'=>e=.returned (.bool true)∧Only (fun _=>False) w w'):=awake6_any w hT
 have HD:Hid (Uw w aD nD Ds):=hD
 have HB:Hid (Iw w aB nB Bs):=hB
 have HT:Hid (Tz w):=hT
 have hDl:nD≤maxLen:=Nat.le_trans hDc hDm
 unfold maxLen at hDl
 obtain⟨ds,hds⟩:∃ ds,ds=dsO Ds:=⟨_,rfl⟩
 have HDS:Hid (ds=dsO Ds):=hds
 clear hB hT hD hds hDc hDm
 go_enter Tryz.func3,Tryz.ntmps3
 go_wp2_with fail
 refine Calls.mono HAW.out ?_
 rintro e w1 ⟨rfl,ho1⟩
 have H1:Hid (Only (fun _=>False) w w1):=ho1
 clear ho1 HAW
 by_cases hbig:200 < nB
 ·have t1:(200:Int) < (nB:Int):=by omega
  go_wp2_with fail
  go_ret
  exact⟨rfl,H1.out⟩
 ·have t1:decide ((200:Int) < (nB:Int))=false:=decide_eq_false (by omega)
  have t1':¬ (200:Int) < (nB:Int):=by omega
  go_upto_region 7 with fail
  obtain⟨wb,hwb⟩:∃ x,x=w1.heap.size:=⟨_,rfl⟩
  obtain⟨w2,hw2⟩:∃ x,x=w1.alloc (.cells #[.int .u8 0,.int .u8 0,.int .u8 0,.int .u8 0,.int .u8 0,.int .u8 0,.int .u8 0,.int .u8 0,.int .u8 0] 27):=⟨_,rfl⟩
  have H2:Hid (Wb w2 wb (wns ds 0)∧Only (fun _=>False) w w2∧w.heap.size≤wb):=by
   rw [hw2,hwb]
   exact⟨heap_alloc_new w1 _,H1.out.alloc _,H1.out.size⟩
  rw [←hw2,←hwb]
  clear hw2 hwb H1
  go_wp2_with fail
  go_loopg [5,21] 9 (fun gh t v wr=>∃ (j:Nat) (S:ByteArray) (W:World),W=wr∧gh=9-j∧j≤9∧S=⟨(hd9++txt ds 0 j).toArray⟩∧t=.string S∧v=.int .i64 (j:Int)∧Wb W wb (wns ds j)∧Only (fun _=>False) w W)
  case atStart=>exact⟨0,_,_,rfl,rfl,Nat.zero_le _,rfl,rfl,rfl,H2.out.1,H2.out.2.1⟩
  case round =>
   obtain⟨j,S,W,hW,rfl,hj,hS,rfl,rfl,hwb,hoW⟩:=hrel
   subst hW
   have hz:S.size≤120:=by
    rw [hS]
    have h1:=txt_len ds j 0
    have h2:(hd9++txt ds 0 j).length=12+(txt ds 0 j).length:=by rw [List.length_append];rfl
    show (hd9++txt ds 0 j).toArray.size≤120
    rw [List.size_toArray,h2]
    omega
   have HG:Hid (S=⟨(hd9++txt ds 0 j).toArray⟩∧Wb W wb (wns ds j)∧Only (fun _=>False) w W):=⟨hS,hwb,hoW⟩
   clear hS hwb hoW
   by_cases hlt:j < 9
   ·have t2:(j:Int) < 9:=by omega
    obtain⟨a,ha⟩:∃ a,a=j / 3:=⟨_,rfl⟩
    obtain⟨b,hb⟩:∃ b,b=j%3:=⟨_,rfl⟩
    have ha3:a < 3:=by omega
    have hb3:b < 3:=by omega
    have q1:(j:Int) / 3=(a:Int):=by omega
    have q2:(j:Int)%3=(b:Int):=by omega
    have q1':(j:Int).tdiv 3=(a:Int):=by rw [Int.tdiv_eq_ediv_of_nonneg (by omega)];exact q1
    have q2':(j:Int).tmod 3=(b:Int):=by rw [Int.tmod_eq_emod_of_nonneg (by omega)];exact q2
    have haI:(a:Int) < 3:=by omega
    have hbI:(b:Int) < 3:=by omega
    have HAB:Hid (a*3+b=j∧a=j / 3∧b=j%3):=⟨by omega,ha,hb⟩
    clear ha hb
    have cw:=HG.out.2.1.cell (i:=a*3+b) (by rw [HAB.out.1];exact wns_at ds hlt)
    have fw:=HG.out.2.1.fz (a*3+b)
    have lw:=HG.out.2.1.lt
    go_upto_region 11 with fail
    clear cw fw lw
    obtain⟨W2,hW2⟩:∃ Y,Y=W.setCell ⟨wb,a*3+b,none⟩ (.int .u8 1):=⟨_,rfl⟩
    rw [←hW2]
    have HW2:Hid (Wb W2 wb ((wns ds j).set j 1)∧Only (fun _=>False) w W2):=by
     rw [hW2,HAB.out.1]
     exact⟨HG.out.2.1.set j 1,HG.out.2.2.setNew (p:=⟨wb,j,none⟩) H2.out.2.2 _⟩
    clear hW2
    by_cases hjD:j < nD
    ·have t3:(j:Int) < (nD:Int):=by omega
     obtain⟨x,hx⟩:∃ x,Ds[j]?=some x:=⟨_,List.getElem?_eq_getElem (by rw [HD.out.1];exact hjD)⟩
     have hx8:x < 256:=HD.out.2.1 x (List.mem_of_getElem? hx)
     obtain⟨bD,oD,rfl,lD0,hcD⟩:=HD.out.at (by omega)
     have p0:=hcD W2 HW2.out.2 j x hx
     have lD:bD < W2.heap.size:=Nat.lt_of_lt_of_le lD0 HW2.out.2.size
     obtain⟨d,hd⟩:∃ d,d=x%4:=⟨_,rfl⟩
     have q3:(x:Int)%4=(d:Int):=by omega
     have q3':(x:Int).tmod 4=(d:Int):=by rw [Int.tmod_eq_emod_of_nonneg (by omega)];exact q3
     have hd4:d < 4:=by omega
     have HDJ:Hid (ds j=d):=by
      rw [HDS.out]
      unfold dsO
      rw [if_pos (by rw [HD.out.1];exact hjD),List.getD_eq_getElem?_getD,hx,hd]
      rfl
     clear hx hcD hd
     go_upto_region 13 with fail
     clear p0 lD q3 q3'
     by_cases hd3:d=3
     ·have t4:((d:Int) == 3)=true:=by rw [beq_iff_eq];omega
      rw [hd3] at HDJ
      clear hd3
      have HS':Hid (S=⟨(hd9++txt ds 0 (j+1)).toArray⟩∧Wb W2 wb (wns ds (j+1))):=by
       refine⟨?_,?_⟩
       ·rw [txt_snoc,Nat.zero_add,HDJ.out,if_neg (by decide),List.append_nil]
        exact HG.out.1
       ·have h:=HW2.out.1
        rw [wns_set ds hlt 1 (by unfold wnt;rw [HDJ.out,if_neg (by decide)];rfl)] at h
        exact h
      go_wp2_with fail
      go_roundg (9-(j+1))
      case measure=>omega
      case rel=>exact⟨j+1,S,_,rfl,rfl,by omega,HS'.out.1,rfl,by go_num,HS'.out.2,HW2.out.2⟩
     ·have t4:((d:Int) == 3)=false:=by rw [beq_eq_false_iff_ne];omega
      have hd2:d < 3:=by omega
      have cw:=HW2.out.1.cell (i:=a*3+b) (by rw [HAB.out.1,List.getElem?_set,if_pos rfl,if_pos (by rw [wns_len];exact hlt)])
      have fw:=HW2.out.1.fz (a*3+b)
      have lw:=HW2.out.1.lt
      go_upto_region 15 with fail
      obtain⟨W3,hW3⟩:∃ Y,Y=W2.setCell ⟨wb,a*3+b,none⟩ (.int .u8 (d:Int)):=⟨_,rfl⟩
      rw [←hW3]
      have HW3:Hid (Wb W3 wb (wns ds (j+1))∧Only (fun _=>False) w W3):=by
       rw [hW3,HAB.out.1]
       refine⟨?_,HW2.out.2.setNew (p:=⟨wb,j,none⟩) H2.out.2.2 _⟩
       have h:=HW2.out.1.set j (d:Int)
       rw [wns_set2 ds hlt 1 (d:Int) (by unfold wnt;rw [HDJ.out,if_pos hd2])] at h
       exact h
      clear hW3 cw fw lw
      have htx:hd9++txt ds 0 (j+1)=(hd9++txt ds 0 j)++lin d a b:=by
       rw [txt_snoc,Nat.zero_add,HDJ.out,if_pos hd2,←HAB.out.2.1,←HAB.out.2.2,List.append_assoc]
      have HTX:Hid (hd9++txt ds 0 (j+1)=(hd9++txt ds 0 j)++lin d a b):=htx
      clear htx
      obtain⟨la,hla⟩:∃ z,z=65+a:=⟨_,rfl⟩
      obtain⟨lb,hlb⟩:∃ z,z=65+b:=⟨_,rfl⟩
      have u1:IntKind.i64.wrap ((65:Int)+(a:Int))=(la:Int):=by rw [hla];exact (wrap_small _ (by omega) (by omega)).trans (by omega)
      have u2:IntKind.i64.wrap ((65:Int)+(b:Int))=(lb:Int):=by rw [hlb];exact (wrap_small _ (by omega) (by omega)).trans (by omega)
      have u3:IntKind.u8.wrap (la:Int)=(la:Int):=by rw [IntKind.wrap_u8];omega
      have u4:IntKind.u8.wrap (lb:Int)=(lb:Int):=by rw [IntKind.wrap_u8];omega
      have u5:(65:Int)+(a:Int)=(la:Int):=by omega
      have u6:(65:Int)+(b:Int)=(lb:Int):=by omega
      have v1:IntKind.i64.wrap (a:Int)=(a:Int):=wrap_small _ (by omega) (by omega)
      have v2:IntKind.i64.wrap (la:Int)=(la:Int):=wrap_small _ (by omega) (by omega)
      have v3:IntKind.i64.wrap (lb:Int)=(lb:Int):=wrap_small _ (by omega) (by omega)
      have v4:IntKind.i64.wrap (b:Int)=(b:Int):=wrap_small _ (by omega) (by omega)
      have hla2:la < 256:=by omega
      have hlb2:lb < 256:=by omega
      obtain⟨s0,hs0⟩:∃ z,z=ws d:=⟨_,rfl⟩
      have y0:s0.size≤5:=by rw [hs0];exact ws_len d
      obtain⟨ka,hka⟩:∃ z:ByteArray,z=⟨#[la.toUInt8]⟩:=⟨_,rfl⟩
      obtain⟨kb,hkb⟩:∃ z:ByteArray,z=⟨#[lb.toUInt8]⟩:=⟨_,rfl⟩
      have ya:ka.size=1:=by rw [hka];rfl
      have yb:kb.size=1:=by rw [hkb];rfl
      obtain⟨s1,hs1⟩:∃ z,z=s0++ka:=⟨_,rfl⟩
      obtain⟨s2,hs2⟩:∃ z,z=s1++⟨#[32,47,32]⟩:=⟨_,rfl⟩
      obtain⟨s3,hs3⟩:∃ z,z=s2++kb:=⟨_,rfl⟩
      obtain⟨s4,hs4⟩:∃ z,z=s3++⟨#[59]⟩:=⟨_,rfl⟩
      obtain⟨s5,hs5⟩:∃ z,z=S++s4:=⟨_,rfl⟩
      have y1:s1.size≤6:=by rw [hs1,ByteArray.size_append];omega
      have y2:s2.size≤9:=by rw [hs2,ByteArray.size_append];show s1.size+3≤9;omega
      have y3:s3.size≤10:=by rw [hs3,ByteArray.size_append];omega
      have y4:s4.size≤11:=by rw [hs4,ByteArray.size_append];show s3.size+1≤11;omega
      have HS5:Hid (s5=⟨(hd9++txt ds 0 (j+1)).toArray⟩):=(by
       rw [hs5,hs4,hs3,hs2,hs1,hs0,hka,hkb,hla,hlb,ws_lin hd2 ha3 hb3,HG.out.1,ba_app,HTX.out]:s5=⟨(hd9++txt ds 0 (j+1)).toArray⟩)
      have HCV:Hid ((∀ (w:World) (g:Nat),BC w g la→(convert 22 9 (.slice (some ⟨g,0,none⟩) 1 1)).run Tryz.prog w=.ok (.string ka) w)∧(∀ (w:World) (g:Nat),BC w g lb→(convert 22 9 (.slice (some ⟨g,0,none⟩) 1 1)).run Tryz.prog w=.ok (.string kb) w)):=⟨fun w g h=>by rw [hka];exact conv8 h hla2,fun w g h=>by rw [hkb];exact conv8 h hlb2⟩
      have HW0:Hid (∀ (w:World) (g:Nat),BA w g→w.cell? ⟨g,d,none⟩=some (.string s0)):=fun w g h=>by rw [hs0];exact ws_at h hd2
      have e1:=hs1.symm
      have e2:=hs2.symm
      have e3:=hs3.symm
      have e4:=hs4.symm
      have e5:=hs5.symm
      clear hs0 hs1 hs2 hs3 hs4 hs5 hka hkb hla hlb
      have g1:(9223372036854775807 < s0.size+ka.size)=False:=by simp;omega
      have g2:(9223372036854775807 < s1.size+3)=False:=by simp;omega
      have g3:(9223372036854775807 < s2.size+kb.size)=False:=by simp;omega
      have g4:(9223372036854775807 < s3.size+1)=False:=by simp;omega
      have g5:(9223372036854775807 < S.size+s4.size)=False:=by simp;omega
      have dI:(d:Int) < 3:=by omega
      have f1:s0.size≤9223372036854775806:=by omega
      have f2:s1.size≤9223372036854775804:=by omega
      have f3:s2.size≤9223372036854775806:=by omega
      have f4:s3.size≤9223372036854775806:=by omega
      have f5:S.size+s4.size≤9223372036854775807:=by omega
      have f5':¬ 9223372036854775807 < S.size+s4.size:=by omega
      have dN:d < 3:=hd2
      refine wp_region_held_drew (S:=fun _=>True) (by kernel_rfl) trivial (fun hH=>?_)
      refine wpAnyH_take (i:=0) (oi:={ dst:=some 48,op:=_,type:=_,pos:=_,after:=_,guard:=_ }) (v:=.string S) rfl (by kernel_rfl) (by kernel_rfl) (by kernel_rfl) (fun _ _ _ h=>h) (Or.inl ⟨by rfl,fun w hSw=>by first | (go_simp;done) | go_simp⟩) (by assumption) ?_
      (try simp only [Act.put,setIfInBounds_toArray,set_cons_zero,set_cons_succ])
      refine wpAnyH_take (i:=2) (oi:={ dst:=some 50,op:=_,type:=_,pos:=_,after:=_,guard:=_ }) (v:=.int .u8 (d:Int)) rfl (by kernel_rfl) (by kernel_rfl) (by kernel_rfl) (fun _ _ _ h=>h) (Or.inl ⟨by rfl,fun w hSw=>by first | (go_simp;done) | go_simp⟩) (by assumption) ?_
      (try simp only [Act.put,setIfInBounds_toArray,set_cons_zero,set_cons_succ])
      refine wpAnyH_take (i:=5) (oi:={ dst:=some 53,op:=_,type:=_,pos:=_,after:=_,guard:=_ }) (v:=.int .i64 (j:Int)) rfl (by kernel_rfl) (by kernel_rfl) (by kernel_rfl) (fun _ _ _ h=>h) (Or.inl ⟨by rfl,fun w hSw=>by first | (go_simp;done) | go_simp⟩) (by assumption) ?_
      (try simp only [Act.put,setIfInBounds_toArray,set_cons_zero,set_cons_succ])
      refine wpAnyH_take (i:=6) (oi:={ dst:=some 54,op:=_,type:=_,pos:=_,after:=_,guard:=_ }) (v:=.int .i64 (a:Int)) rfl (by kernel_rfl) (by kernel_rfl) (by kernel_rfl) (fun _ _ _ h=>h) (Or.inl ⟨by rfl,fun w hSw=>by first | (go_simp;done) | go_simp⟩) (by assumption) ?_
      (try simp only [Act.put,setIfInBounds_toArray,set_cons_zero,set_cons_succ])
      refine wpAnyH_take (i:=7) (oi:={ dst:=some 55,op:=_,type:=_,pos:=_,after:=_,guard:=_ }) (v:=.int .i64 (la:Int)) rfl (by kernel_rfl) (by kernel_rfl) (by kernel_rfl) (fun _ _ _ h=>h) (Or.inl ⟨by rfl,fun w hSw=>by first | (go_simp;done) | go_simp⟩) (by assumption) ?_
      (try simp only [Act.put,setIfInBounds_toArray,set_cons_zero,set_cons_succ])
      refine wpAnyH_take (i:=8) (oi:={ dst:=some 56,op:=_,type:=_,pos:=_,after:=_,guard:=_ }) (v:=.int .u8 (la:Int)) rfl (by kernel_rfl) (by kernel_rfl) (by kernel_rfl) (fun _ _ _ h=>h) (Or.inl ⟨by rfl,fun w hSw=>by first | (go_simp;done) | go_simp⟩) (by assumption) ?_
      (try simp only [Act.put,setIfInBounds_toArray,set_cons_zero,set_cons_succ])
      refine wpAnyH_take (i:=13) (oi:={ dst:=some 61,op:=_,type:=_,pos:=_,after:=_,guard:=_ }) (v:=.int .i64 (j:Int)) rfl (by kernel_rfl) (by kernel_rfl) (by kernel_rfl) (fun _ _ _ h=>h) (Or.inl ⟨by rfl,fun w hSw=>by first | (go_simp;done) | go_simp⟩) (by assumption) ?_
      (try simp only [Act.put,setIfInBounds_toArray,set_cons_zero,set_cons_succ])
      refine wpAnyH_take (i:=14) (oi:={ dst:=some 62,op:=_,type:=_,pos:=_,after:=_,guard:=_ }) (v:=.int .i64 (b:Int)) rfl (by kernel_rfl) (by kernel_rfl) (by kernel_rfl) (fun _ _ _ h=>h) (Or.inl ⟨by rfl,fun w hSw=>by first | (go_simp;done) | go_simp⟩) (by assumption) ?_
      (try simp only [Act.put,setIfInBounds_toArray,set_cons_zero,set_cons_succ])
      refine wpAnyH_take (i:=15) (oi:={ dst:=some 63,op:=_,type:=_,pos:=_,after:=_,guard:=_ }) (v:=.int .i64 (lb:Int)) rfl (by kernel_rfl) (by kernel_rfl) (by kernel_rfl) (fun _ _ _ h=>h) (Or.inl ⟨by rfl,fun w hSw=>by first | (go_simp;done) | go_simp⟩) (by assumption) ?_
      (try simp only [Act.put,setIfInBounds_toArray,set_cons_zero,set_cons_succ])
      refine wpAnyH_take (i:=16) (oi:={ dst:=some 64,op:=_,type:=_,pos:=_,after:=_,guard:=_ }) (v:=.int .u8 (lb:Int)) rfl (by kernel_rfl) (by kernel_rfl) (by kernel_rfl) (fun _ _ _ h=>h) (Or.inl ⟨by rfl,fun w hSw=>by first | (go_simp;done) | go_simp⟩) (by assumption) ?_
      (try simp only [Act.put,setIfInBounds_toArray,set_cons_zero,set_cons_succ])
      refine wpAnyH_ready (rs:=[1,9,17]) (by kernel_rfl) (by simp) (AllReadyH.cons rfl (fun K hK=>?_) (AllReadyH.cons rfl (fun K hK=>?_) (AllReadyH.cons rfl (fun K hK=>?_) AllReadyH.nil)))
      rw [if_pos (by rfl)]
      go_simp
      obtain⟨gA,hg⟩:∃ z,z=W3.heap.size:=⟨_,rfl⟩
      obtain⟨Y1,hY⟩:∃ z,z=(W3.alloc (.cells #[.string ⟨#[107,101,101,112,32]⟩,.string ⟨#[109,97,121,32]⟩,.string ⟨#[109,117,115,116,32]⟩] 9)).drew:=⟨_,rfl⟩
      rw [←hY,←hg]
      have ho:Only (fun _=>False) W3 Y1:=by rw [hY];exact ((Only.refl _ _).alloc _).drew
      have hN:BA Y1 gA:=by rw [hY,hg];exact heap_alloc_new W3 _
      have HO1:Hid (Only (fun _=>False) W3 Y1):=ho
      have hS:True:=trivial
      clear hY hg
      refine hK.out _ _ hS (fun hJ=>?_)
      clear hK hJ
      refine hmo (S':=fun W'=>BA W' gA∧True) (fun _ h=>h.2) _ _ _ _ ?_
      have hH:(fun W'=>BA W' gA∧True) Y1:=⟨hN,hS⟩
      clear hN hS ho
      (try simp only [Act.put,setIfInBounds_toArray,set_cons_zero,set_cons_succ])
      refine wpAnyH_take (i:=3) (oi:=⟨some 51,_,_,_,_,_⟩) (v:=.pointer (some ⟨gA,d,none⟩)) rfl (by kernel_rfl) (by kernel_rfl) (by kernel_rfl) (fun _ _ _ h=>h) (Or.inl ⟨by rfl,fun w hSw=>by go_simp⟩) (by assumption) ?_
      (try simp only [Act.put,setIfInBounds_toArray,set_cons_zero,set_cons_succ])
      refine wpAnyH_take (i:=4) (oi:=⟨some 52,_,_,_,_,_⟩) (v:=.string s0) rfl (by kernel_rfl) (by kernel_rfl) (by kernel_rfl) (fun _ _ _ h=>h) (Or.inl ⟨by rfl,fun w hSw=>by have cA:=HW0.out w gA hSw.1;go_simp⟩) (by assumption) ?_
      (try simp only [Act.put,setIfInBounds_toArray,set_cons_zero,set_cons_succ])
      rotate_left
      rw [if_pos (by rfl)]
      go_simp
      obtain⟨gB,hg⟩:∃ z,z=W3.heap.size:=⟨_,rfl⟩
      obtain⟨Y1,hY⟩:∃ z,z=(W3.alloc (.cells #[.int .u8 (la:Int)] 5)).drew:=⟨_,rfl⟩
      rw [←hY,←hg]
      have ho:Only (fun _=>False) W3 Y1:=by rw [hY];exact ((Only.refl _ _).alloc _).drew
      have hN:BC Y1 gB la:=by rw [hY,hg];exact heap_alloc_new W3 _
      have HO1:Hid (Only (fun _=>False) W3 Y1):=ho
      have hS:True:=trivial
      clear hY hg
      refine hK.out _ _ hS (fun hJ=>?_)
      clear hK hJ
      refine hmo (S':=fun W'=>BC W' gB la∧True) (fun _ h=>h.2) _ _ _ _ ?_
      have hH:(fun W'=>BC W' gB la∧True) Y1:=⟨hN,hS⟩
      clear hN hS ho
      (try simp only [Act.put,setIfInBounds_toArray,set_cons_zero,set_cons_succ])
      refine wpAnyH_take (i:=10) (oi:=⟨some 58,_,_,_,_,_⟩) (v:=.string ka) rfl (by kernel_rfl) (by kernel_rfl) (by kernel_rfl) (fun _ _ _ h=>h) (Or.inl ⟨by rfl,fun w hSw=>by have cv:=HCV.out.1 w gB hSw.1;go_simp⟩) (by assumption) ?_
      (try simp only [Act.put,setIfInBounds_toArray,set_cons_zero,set_cons_succ])
      rotate_left
      rw [if_pos (by rfl)]
      go_simp
      obtain⟨gC,hg⟩:∃ z,z=W3.heap.size:=⟨_,rfl⟩
      obtain⟨Y1,hY⟩:∃ z,z=(W3.alloc (.cells #[.int .u8 (lb:Int)] 5)).drew:=⟨_,rfl⟩
      rw [←hY,←hg]
      have ho:Only (fun _=>False) W3 Y1:=by rw [hY];exact ((Only.refl _ _).alloc _).drew
      have hN:BC Y1 gC lb:=by rw [hY,hg];exact heap_alloc_new W3 _
      have HO1:Hid (Only (fun _=>False) W3 Y1):=ho
      have hS:True:=trivial
      clear hY hg
      refine hK.out _ _ hS (fun hJ=>?_)
      clear hK hJ
      refine hmo (S':=fun W'=>BC W' gC lb∧True) (fun _ h=>h.2) _ _ _ _ ?_
      have hH:(fun W'=>BC W' gC lb∧True) Y1:=⟨hN,hS⟩
      clear hN hS ho
      (try simp only [Act.put,setIfInBounds_toArray,set_cons_zero,set_cons_succ])
      refine wpAnyH_take (i:=18) (oi:=⟨some 66,_,_,_,_,_⟩) (v:=.string kb) rfl (by kernel_rfl) (by kernel_rfl) (by kernel_rfl) (fun _ _ _ h=>h) (Or.inl ⟨by rfl,fun w hSw=>by have cv:=HCV.out.2 w gC hSw.1;go_simp⟩) (by assumption) ?_
      (try simp only [Act.put,setIfInBounds_toArray,set_cons_zero,set_cons_succ])
      rotate_left
      refine wpAnyH_ready (rs:=[9,17]) (by kernel_rfl) (by simp) (AllReadyH.cons rfl (fun K hK=>?_) (AllReadyH.cons rfl (fun K hK=>?_) AllReadyH.nil))
      rw [if_pos (by rfl)]
      go_simp
      obtain⟨gB,hg⟩:∃ z,z=Y1.heap.size:=⟨_,rfl⟩
      obtain⟨Y2,hY⟩:∃ z,z=Y1.alloc (.cells #[.int .u8 (la:Int)] 5):=⟨_,rfl⟩
      rw [←hY,←hg]
      have ho:Only (fun _=>False) Y1 Y2:=by rw [hY];exact ((Only.refl _ _).alloc _)
      have hN:BC Y2 gB la:=by rw [hY,hg];exact heap_alloc_new Y1 _
      have HO2:Hid (Only (fun _=>False) W3 Y2):=HO1.out.trans ho
      have hS:BA Y2 gA∧True:=⟨hH.1.keep ho,trivial⟩
      clear hY hg hH
      refine hK.out _ _ hS (fun hJ=>?_)
      clear hK hJ
      refine hmo (S':=fun W'=>BC W' gB la∧BA W' gA∧True) (fun _ h=>h.2) _ _ _ _ ?_
      have hH:(fun W'=>BC W' gB la∧BA W' gA∧True) Y2:=⟨hN,hS⟩
      clear hN hS ho
      (try simp only [Act.put,setIfInBounds_toArray,set_cons_zero,set_cons_succ])
      refine wpAnyH_take (i:=10) (oi:=⟨some 58,_,_,_,_,_⟩) (v:=.string ka) rfl (by kernel_rfl) (by kernel_rfl) (by kernel_rfl) (fun _ _ _ h=>h) (Or.inl ⟨by rfl,fun w hSw=>by have cv:=HCV.out.1 w gB hSw.1;go_simp⟩) (by assumption) ?_
      (try simp only [Act.put,setIfInBounds_toArray,set_cons_zero,set_cons_succ])
      refine wpAnyH_take (i:=11) (oi:=⟨some 59,_,_,_,_,_⟩) (v:=.string s1) rfl (by kernel_rfl) (by kernel_rfl) (by kernel_rfl) (fun _ _ _ h=>h) (Or.inl ⟨by rfl,fun w hSw=>by go_simp⟩) (by assumption) ?_
      (try simp only [Act.put,setIfInBounds_toArray,set_cons_zero,set_cons_succ])
      refine wpAnyH_take (i:=12) (oi:=⟨some 60,_,_,_,_,_⟩) (v:=.string s2) rfl (by kernel_rfl) (by kernel_rfl) (by kernel_rfl) (fun _ _ _ h=>h) (Or.inl ⟨by rfl,fun w hSw=>by go_simp⟩) (by assumption) ?_
      (try simp only [Act.put,setIfInBounds_toArray,set_cons_zero,set_cons_succ])
      rotate_left
      rw [if_pos (by rfl)]
      go_simp
      obtain⟨gC,hg⟩:∃ z,z=Y1.heap.size:=⟨_,rfl⟩
      obtain⟨Y2,hY⟩:∃ z,z=Y1.alloc (.cells #[.int .u8 (lb:Int)] 5):=⟨_,rfl⟩
      rw [←hY,←hg]
      have ho:Only (fun _=>False) Y1 Y2:=by rw [hY];exact ((Only.refl _ _).alloc _)
      have hN:BC Y2 gC lb:=by rw [hY,hg];exact heap_alloc_new Y1 _
      have HO2:Hid (Only (fun _=>False) W3 Y2):=HO1.out.trans ho
      have hS:BA Y2 gA∧True:=⟨hH.1.keep ho,trivial⟩
      clear hY hg hH
      refine hK.out _ _ hS (fun hJ=>?_)
      clear hK hJ
      refine hmo (S':=fun W'=>BC W' gC lb∧BA W' gA∧True) (fun _ h=>h.2) _ _ _ _ ?_
      have hH:(fun W'=>BC W' gC lb∧BA W' gA∧True) Y2:=⟨hN,hS⟩
      clear hN hS ho
      (try simp only [Act.put,setIfInBounds_toArray,set_cons_zero,set_cons_succ])
      refine wpAnyH_take (i:=18) (oi:=⟨some 66,_,_,_,_,_⟩) (v:=.string kb) rfl (by kernel_rfl) (by kernel_rfl) (by kernel_rfl) (fun _ _ _ h=>h) (Or.inl ⟨by rfl,fun w hSw=>by have cv:=HCV.out.2 w gC hSw.1;go_simp⟩) (by assumption) ?_
      (try simp only [Act.put,setIfInBounds_toArray,set_cons_zero,set_cons_succ])
      rotate_left
      refine wpAnyH_ready (rs:=[1,17]) (by kernel_rfl) (by simp) (AllReadyH.cons rfl (fun K hK=>?_) (AllReadyH.cons rfl (fun K hK=>?_) AllReadyH.nil))
      rw [if_pos (by rfl)]
      go_simp
      obtain⟨gA,hg⟩:∃ z,z=Y1.heap.size:=⟨_,rfl⟩
      obtain⟨Y2,hY⟩:∃ z,z=Y1.alloc (.cells #[.string ⟨#[107,101,101,112,32]⟩,.string ⟨#[109,97,121,32]⟩,.string ⟨#[109,117,115,116,32]⟩] 9):=⟨_,rfl⟩
      rw [←hY,←hg]
      have ho:Only (fun _=>False) Y1 Y2:=by rw [hY];exact ((Only.refl _ _).alloc _)
      have hN:BA Y2 gA:=by rw [hY,hg];exact heap_alloc_new Y1 _
      have HO2:Hid (Only (fun _=>False) W3 Y2):=HO1.out.trans ho
      have hS:BC Y2 gB la∧True:=⟨hH.1.keep ho,trivial⟩
      clear hY hg hH
      refine hK.out _ _ hS (fun hJ=>?_)
      clear hK hJ
      refine hmo (S':=fun W'=>BA W' gA∧BC W' gB la∧True) (fun _ h=>h.2) _ _ _ _ ?_
      have hH:(fun W'=>BA W' gA∧BC W' gB la∧True) Y2:=⟨hN,hS⟩
      clear hN hS ho
      (try simp only [Act.put,setIfInBounds_toArray,set_cons_zero,set_cons_succ])
      refine wpAnyH_take (i:=3) (oi:=⟨some 51,_,_,_,_,_⟩) (v:=.pointer (some ⟨gA,d,none⟩)) rfl (by kernel_rfl) (by kernel_rfl) (by kernel_rfl) (fun _ _ _ h=>h) (Or.inl ⟨by rfl,fun w hSw=>by go_simp⟩) (by assumption) ?_
      (try simp only [Act.put,setIfInBounds_toArray,set_cons_zero,set_cons_succ])
      refine wpAnyH_take (i:=4) (oi:=⟨some 52,_,_,_,_,_⟩) (v:=.string s0) rfl (by kernel_rfl) (by kernel_rfl) (by kernel_rfl) (fun _ _ _ h=>h) (Or.inl ⟨by rfl,fun w hSw=>by have cA:=HW0.out w gA hSw.1;go_simp⟩) (by assumption) ?_
      (try simp only [Act.put,setIfInBounds_toArray,set_cons_zero,set_cons_succ])
      refine wpAnyH_take (i:=11) (oi:=⟨some 59,_,_,_,_,_⟩) (v:=.string s1) rfl (by kernel_rfl) (by kernel_rfl) (by kernel_rfl) (fun _ _ _ h=>h) (Or.inl ⟨by rfl,fun w hSw=>by go_simp⟩) (by assumption) ?_
      (try simp only [Act.put,setIfInBounds_toArray,set_cons_zero,set_cons_succ])
      refine wpAnyH_take (i:=12) (oi:=⟨some 60,_,_,_,_,_⟩) (v:=.string s2) rfl (by kernel_rfl) (by kernel_rfl) (by kernel_rfl) (fun _ _ _ h=>h) (Or.inl ⟨by rfl,fun w hSw=>by go_simp⟩) (by assumption) ?_
      (try simp only [Act.put,setIfInBounds_toArray,set_cons_zero,set_cons_succ])
      rotate_left
      rw [if_pos (by rfl)]
      go_simp
      obtain⟨gC,hg⟩:∃ z,z=Y1.heap.size:=⟨_,rfl⟩
      obtain⟨Y2,hY⟩:∃ z,z=Y1.alloc (.cells #[.int .u8 (lb:Int)] 5):=⟨_,rfl⟩
      rw [←hY,←hg]
      have ho:Only (fun _=>False) Y1 Y2:=by rw [hY];exact ((Only.refl _ _).alloc _)
      have hN:BC Y2 gC lb:=by rw [hY,hg];exact heap_alloc_new Y1 _
      have HO2:Hid (Only (fun _=>False) W3 Y2):=HO1.out.trans ho
      have hS:BC Y2 gB la∧True:=⟨hH.1.keep ho,trivial⟩
      clear hY hg hH
      refine hK.out _ _ hS (fun hJ=>?_)
      clear hK hJ
      refine hmo (S':=fun W'=>BC W' gC lb∧BC W' gB la∧True) (fun _ h=>h.2) _ _ _ _ ?_
      have hH:(fun W'=>BC W' gC lb∧BC W' gB la∧True) Y2:=⟨hN,hS⟩
      clear hN hS ho
      (try simp only [Act.put,setIfInBounds_toArray,set_cons_zero,set_cons_succ])
      refine wpAnyH_take (i:=18) (oi:=⟨some 66,_,_,_,_,_⟩) (v:=.string kb) rfl (by kernel_rfl) (by kernel_rfl) (by kernel_rfl) (fun _ _ _ h=>h) (Or.inl ⟨by rfl,fun w hSw=>by have cv:=HCV.out.2 w gC hSw.1;go_simp⟩) (by assumption) ?_
      (try simp only [Act.put,setIfInBounds_toArray,set_cons_zero,set_cons_succ])
      rotate_left
      refine wpAnyH_ready (rs:=[1,9]) (by kernel_rfl) (by simp) (AllReadyH.cons rfl (fun K hK=>?_) (AllReadyH.cons rfl (fun K hK=>?_) AllReadyH.nil))
      rw [if_pos (by rfl)]
      go_simp
      obtain⟨gA,hg⟩:∃ z,z=Y1.heap.size:=⟨_,rfl⟩
      obtain⟨Y2,hY⟩:∃ z,z=Y1.alloc (.cells #[.string ⟨#[107,101,101,112,32]⟩,.string ⟨#[109,97,121,32]⟩,.string ⟨#[109,117,115,116,32]⟩] 9):=⟨_,rfl⟩
      rw [←hY,←hg]
      have ho:Only (fun _=>False) Y1 Y2:=by rw [hY];exact ((Only.refl _ _).alloc _)
      have hN:BA Y2 gA:=by rw [hY,hg];exact heap_alloc_new Y1 _
      have HO2:Hid (Only (fun _=>False) W3 Y2):=HO1.out.trans ho
      have hS:BC Y2 gC lb∧True:=⟨hH.1.keep ho,trivial⟩
      clear hY hg hH
      refine hK.out _ _ hS (fun hJ=>?_)
      clear hK hJ
      refine hmo (S':=fun W'=>BA W' gA∧BC W' gC lb∧True) (fun _ h=>h.2) _ _ _ _ ?_
      have hH:(fun W'=>BA W' gA∧BC W' gC lb∧True) Y2:=⟨hN,hS⟩
      clear hN hS ho
      (try simp only [Act.put,setIfInBounds_toArray,set_cons_zero,set_cons_succ])
      refine wpAnyH_take (i:=3) (oi:=⟨some 51,_,_,_,_,_⟩) (v:=.pointer (some ⟨gA,d,none⟩)) rfl (by kernel_rfl) (by kernel_rfl) (by kernel_rfl) (fun _ _ _ h=>h) (Or.inl ⟨by rfl,fun w hSw=>by go_simp⟩) (by assumption) ?_
      (try simp only [Act.put,setIfInBounds_toArray,set_cons_zero,set_cons_succ])
      refine wpAnyH_take (i:=4) (oi:=⟨some 52,_,_,_,_,_⟩) (v:=.string s0) rfl (by kernel_rfl) (by kernel_rfl) (by kernel_rfl) (fun _ _ _ h=>h) (Or.inl ⟨by rfl,fun w hSw=>by have cA:=HW0.out w gA hSw.1;go_simp⟩) (by assumption) ?_
      (try simp only [Act.put,setIfInBounds_toArray,set_cons_zero,set_cons_succ])
      rotate_left
      rw [if_pos (by rfl)]
      go_simp
      obtain⟨gB,hg⟩:∃ z,z=Y1.heap.size:=⟨_,rfl⟩
      obtain⟨Y2,hY⟩:∃ z,z=Y1.alloc (.cells #[.int .u8 (la:Int)] 5):=⟨_,rfl⟩
      rw [←hY,←hg]
      have ho:Only (fun _=>False) Y1 Y2:=by rw [hY];exact ((Only.refl _ _).alloc _)
      have hN:BC Y2 gB la:=by rw [hY,hg];exact heap_alloc_new Y1 _
      have HO2:Hid (Only (fun _=>False) W3 Y2):=HO1.out.trans ho
      have hS:BC Y2 gC lb∧True:=⟨hH.1.keep ho,trivial⟩
      clear hY hg hH
      refine hK.out _ _ hS (fun hJ=>?_)
      clear hK hJ
      refine hmo (S':=fun W'=>BC W' gB la∧BC W' gC lb∧True) (fun _ h=>h.2) _ _ _ _ ?_
      have hH:(fun W'=>BC W' gB la∧BC W' gC lb∧True) Y2:=⟨hN,hS⟩
      clear hN hS ho
      (try simp only [Act.put,setIfInBounds_toArray,set_cons_zero,set_cons_succ])
      refine wpAnyH_take (i:=10) (oi:=⟨some 58,_,_,_,_,_⟩) (v:=.string ka) rfl (by kernel_rfl) (by kernel_rfl) (by kernel_rfl) (fun _ _ _ h=>h) (Or.inl ⟨by rfl,fun w hSw=>by have cv:=HCV.out.1 w gB hSw.1;go_simp⟩) (by assumption) ?_
      (try simp only [Act.put,setIfInBounds_toArray,set_cons_zero,set_cons_succ])
      rotate_left
      refine wpAnyH_ready (rs:=[17]) (by kernel_rfl) (by simp) (AllReadyH.cons rfl (fun K hK=>?_) AllReadyH.nil)
      rw [if_pos (by rfl)]
      go_simp
      obtain⟨gC,hg⟩:∃ z,z=Y2.heap.size:=⟨_,rfl⟩
      obtain⟨Y3,hY⟩:∃ z,z=Y2.alloc (.cells #[.int .u8 (lb:Int)] 5):=⟨_,rfl⟩
      rw [←hY,←hg]
      have ho:Only (fun _=>False) Y2 Y3:=by rw [hY];exact ((Only.refl _ _).alloc _)
      have hN:BC Y3 gC lb:=by rw [hY,hg];exact heap_alloc_new Y2 _
      have HO3:Hid (Only (fun _=>False) W3 Y3):=HO2.out.trans ho
      have hS:BC Y3 gB la∧BA Y3 gA∧True:=⟨hH.1.keep ho,hH.2.1.keep ho,trivial⟩
      clear hY hg hH
      refine hK.out _ _ hS (fun hJ=>?_)
      clear hK hJ
      refine hmo (S':=fun W'=>BC W' gC lb∧BC W' gB la∧BA W' gA∧True) (fun _ h=>h.2) _ _ _ _ ?_
      have hH:(fun W'=>BC W' gC lb∧BC W' gB la∧BA W' gA∧True) Y3:=⟨hN,hS⟩
      clear hN hS ho
      (try simp only [Act.put,setIfInBounds_toArray,set_cons_zero,set_cons_succ])
      refine wpAnyH_take (i:=18) (oi:=⟨some 66,_,_,_,_,_⟩) (v:=.string kb) rfl (by kernel_rfl) (by kernel_rfl) (by kernel_rfl) (fun _ _ _ h=>h) (Or.inl ⟨by rfl,fun w hSw=>by have cv:=HCV.out.2 w gC hSw.1;go_simp⟩) (by assumption) ?_
      (try simp only [Act.put,setIfInBounds_toArray,set_cons_zero,set_cons_succ])
      rotate_left
      refine wpAnyH_ready (rs:=[9]) (by kernel_rfl) (by simp) (AllReadyH.cons rfl (fun K hK=>?_) AllReadyH.nil)
      rw [if_pos (by rfl)]
      go_simp
      obtain⟨gB,hg⟩:∃ z,z=Y2.heap.size:=⟨_,rfl⟩
      obtain⟨Y3,hY⟩:∃ z,z=Y2.alloc (.cells #[.int .u8 (la:Int)] 5):=⟨_,rfl⟩
      rw [←hY,←hg]
      have ho:Only (fun _=>False) Y2 Y3:=by rw [hY];exact ((Only.refl _ _).alloc _)
      have hN:BC Y3 gB la:=by rw [hY,hg];exact heap_alloc_new Y2 _
      have HO3:Hid (Only (fun _=>False) W3 Y3):=HO2.out.trans ho
      have hS:BC Y3 gC lb∧BA Y3 gA∧True:=⟨hH.1.keep ho,hH.2.1.keep ho,trivial⟩
      clear hY hg hH
      refine hK.out _ _ hS (fun hJ=>?_)
      clear hK hJ
      refine hmo (S':=fun W'=>BC W' gB la∧BC W' gC lb∧BA W' gA∧True) (fun _ h=>h.2) _ _ _ _ ?_
      have hH:(fun W'=>BC W' gB la∧BC W' gC lb∧BA W' gA∧True) Y3:=⟨hN,hS⟩
      clear hN hS ho
      (try simp only [Act.put,setIfInBounds_toArray,set_cons_zero,set_cons_succ])
      refine wpAnyH_take (i:=10) (oi:=⟨some 58,_,_,_,_,_⟩) (v:=.string ka) rfl (by kernel_rfl) (by kernel_rfl) (by kernel_rfl) (fun _ _ _ h=>h) (Or.inl ⟨by rfl,fun w hSw=>by have cv:=HCV.out.1 w gB hSw.1;go_simp⟩) (by assumption) ?_
      (try simp only [Act.put,setIfInBounds_toArray,set_cons_zero,set_cons_succ])
      rotate_left
      refine wpAnyH_ready (rs:=[17]) (by kernel_rfl) (by simp) (AllReadyH.cons rfl (fun K hK=>?_) AllReadyH.nil)
      rw [if_pos (by rfl)]
      go_simp
      obtain⟨gC,hg⟩:∃ z,z=Y2.heap.size:=⟨_,rfl⟩
      obtain⟨Y3,hY⟩:∃ z,z=Y2.alloc (.cells #[.int .u8 (lb:Int)] 5):=⟨_,rfl⟩
      rw [←hY,←hg]
      have ho:Only (fun _=>False) Y2 Y3:=by rw [hY];exact ((Only.refl _ _).alloc _)
      have hN:BC Y3 gC lb:=by rw [hY,hg];exact heap_alloc_new Y2 _
      have HO3:Hid (Only (fun _=>False) W3 Y3):=HO2.out.trans ho
      have hS:BA Y3 gA∧BC Y3 gB la∧True:=⟨hH.1.keep ho,hH.2.1.keep ho,trivial⟩
      clear hY hg hH
      refine hK.out _ _ hS (fun hJ=>?_)
      clear hK hJ
      refine hmo (S':=fun W'=>BC W' gC lb∧BA W' gA∧BC W' gB la∧True) (fun _ h=>h.2) _ _ _ _ ?_
      have hH:(fun W'=>BC W' gC lb∧BA W' gA∧BC W' gB la∧True) Y3:=⟨hN,hS⟩
      clear hN hS ho
      (try simp only [Act.put,setIfInBounds_toArray,set_cons_zero,set_cons_succ])
      refine wpAnyH_take (i:=18) (oi:=⟨some 66,_,_,_,_,_⟩) (v:=.string kb) rfl (by kernel_rfl) (by kernel_rfl) (by kernel_rfl) (fun _ _ _ h=>h) (Or.inl ⟨by rfl,fun w hSw=>by have cv:=HCV.out.2 w gC hSw.1;go_simp⟩) (by assumption) ?_
      (try simp only [Act.put,setIfInBounds_toArray,set_cons_zero,set_cons_succ])
      rotate_left
      refine wpAnyH_ready (rs:=[1]) (by kernel_rfl) (by simp) (AllReadyH.cons rfl (fun K hK=>?_) AllReadyH.nil)
      rw [if_pos (by rfl)]
      go_simp
      obtain⟨gA,hg⟩:∃ z,z=Y2.heap.size:=⟨_,rfl⟩
      obtain⟨Y3,hY⟩:∃ z,z=Y2.alloc (.cells #[.string ⟨#[107,101,101,112,32]⟩,.string ⟨#[109,97,121,32]⟩,.string ⟨#[109,117,115,116,32]⟩] 9):=⟨_,rfl⟩
      rw [←hY,←hg]
      have ho:Only (fun _=>False) Y2 Y3:=by rw [hY];exact ((Only.refl _ _).alloc _)
      have hN:BA Y3 gA:=by rw [hY,hg];exact heap_alloc_new Y2 _
      have HO3:Hid (Only (fun _=>False) W3 Y3):=HO2.out.trans ho
      have hS:BC Y3 gC lb∧BC Y3 gB la∧True:=⟨hH.1.keep ho,hH.2.1.keep ho,trivial⟩
      clear hY hg hH
      refine hK.out _ _ hS (fun hJ=>?_)
      clear hK hJ
      refine hmo (S':=fun W'=>BA W' gA∧BC W' gC lb∧BC W' gB la∧True) (fun _ h=>h.2) _ _ _ _ ?_
      have hH:(fun W'=>BA W' gA∧BC W' gC lb∧BC W' gB la∧True) Y3:=⟨hN,hS⟩
      clear hN hS ho
      (try simp only [Act.put,setIfInBounds_toArray,set_cons_zero,set_cons_succ])
      refine wpAnyH_take (i:=3) (oi:=⟨some 51,_,_,_,_,_⟩) (v:=.pointer (some ⟨gA,d,none⟩)) rfl (by kernel_rfl) (by kernel_rfl) (by kernel_rfl) (fun _ _ _ h=>h) (Or.inl ⟨by rfl,fun w hSw=>by go_simp⟩) (by assumption) ?_
      (try simp only [Act.put,setIfInBounds_toArray,set_cons_zero,set_cons_succ])
      refine wpAnyH_take (i:=4) (oi:=⟨some 52,_,_,_,_,_⟩) (v:=.string s0) rfl (by kernel_rfl) (by kernel_rfl) (by kernel_rfl) (fun _ _ _ h=>h) (Or.inl ⟨by rfl,fun w hSw=>by have cA:=HW0.out w gA hSw.1;go_simp⟩) (by assumption) ?_
      (try simp only [Act.put,setIfInBounds_toArray,set_cons_zero,set_cons_succ])
      rotate_left
      refine wpAnyH_ready (rs:=[9]) (by kernel_rfl) (by simp) (AllReadyH.cons rfl (fun K hK=>?_) AllReadyH.nil)
      rw [if_pos (by rfl)]
      go_simp
      obtain⟨gB,hg⟩:∃ z,z=Y2.heap.size:=⟨_,rfl⟩
      obtain⟨Y3,hY⟩:∃ z,z=Y2.alloc (.cells #[.int .u8 (la:Int)] 5):=⟨_,rfl⟩
      rw [←hY,←hg]
      have ho:Only (fun _=>False) Y2 Y3:=by rw [hY];exact ((Only.refl _ _).alloc _)
      have hN:BC Y3 gB la:=by rw [hY,hg];exact heap_alloc_new Y2 _
      have HO3:Hid (Only (fun _=>False) W3 Y3):=HO2.out.trans ho
      have hS:BA Y3 gA∧BC Y3 gC lb∧True:=⟨hH.1.keep ho,hH.2.1.keep ho,trivial⟩
      clear hY hg hH
      refine hK.out _ _ hS (fun hJ=>?_)
      clear hK hJ
      refine hmo (S':=fun W'=>BC W' gB la∧BA W' gA∧BC W' gC lb∧True) (fun _ h=>h.2) _ _ _ _ ?_
      have hH:(fun W'=>BC W' gB la∧BA W' gA∧BC W' gC lb∧True) Y3:=⟨hN,hS⟩
      clear hN hS ho
      (try simp only [Act.put,setIfInBounds_toArray,set_cons_zero,set_cons_succ])
      refine wpAnyH_take (i:=10) (oi:=⟨some 58,_,_,_,_,_⟩) (v:=.string ka) rfl (by kernel_rfl) (by kernel_rfl) (by kernel_rfl) (fun _ _ _ h=>h) (Or.inl ⟨by rfl,fun w hSw=>by have cv:=HCV.out.1 w gB hSw.1;go_simp⟩) (by assumption) ?_
      (try simp only [Act.put,setIfInBounds_toArray,set_cons_zero,set_cons_succ])
      rotate_left
      refine wpAnyH_ready (rs:=[1]) (by kernel_rfl) (by simp) (AllReadyH.cons rfl (fun K hK=>?_) AllReadyH.nil)
      rw [if_pos (by rfl)]
      go_simp
      obtain⟨gA,hg⟩:∃ z,z=Y2.heap.size:=⟨_,rfl⟩
      obtain⟨Y3,hY⟩:∃ z,z=Y2.alloc (.cells #[.string ⟨#[107,101,101,112,32]⟩,.string ⟨#[109,97,121,32]⟩,.string ⟨#[109,117,115,116,32]⟩] 9):=⟨_,rfl⟩
      rw [←hY,←hg]
      have ho:Only (fun _=>False) Y2 Y3:=by rw [hY];exact ((Only.refl _ _).alloc _)
      have hN:BA Y3 gA:=by rw [hY,hg];exact heap_alloc_new Y2 _
      have HO3:Hid (Only (fun _=>False) W3 Y3):=HO2.out.trans ho
      have hS:BC Y3 gB la∧BC Y3 gC lb∧True:=⟨hH.1.keep ho,hH.2.1.keep ho,trivial⟩
      clear hY hg hH
      refine hK.out _ _ hS (fun hJ=>?_)
      clear hK hJ
      refine hmo (S':=fun W'=>BA W' gA∧BC W' gB la∧BC W' gC lb∧True) (fun _ h=>h.2) _ _ _ _ ?_
      have hH:(fun W'=>BA W' gA∧BC W' gB la∧BC W' gC lb∧True) Y3:=⟨hN,hS⟩
      clear hN hS ho
      (try simp only [Act.put,setIfInBounds_toArray,set_cons_zero,set_cons_succ])
      refine wpAnyH_take (i:=3) (oi:=⟨some 51,_,_,_,_,_⟩) (v:=.pointer (some ⟨gA,d,none⟩)) rfl (by kernel_rfl) (by kernel_rfl) (by kernel_rfl) (fun _ _ _ h=>h) (Or.inl ⟨by rfl,fun w hSw=>by go_simp⟩) (by assumption) ?_
      (try simp only [Act.put,setIfInBounds_toArray,set_cons_zero,set_cons_succ])
      refine wpAnyH_take (i:=4) (oi:=⟨some 52,_,_,_,_,_⟩) (v:=.string s0) rfl (by kernel_rfl) (by kernel_rfl) (by kernel_rfl) (fun _ _ _ h=>h) (Or.inl ⟨by rfl,fun w hSw=>by have cA:=HW0.out w gA hSw.1;go_simp⟩) (by assumption) ?_
      (try simp only [Act.put,setIfInBounds_toArray,set_cons_zero,set_cons_succ])
      rotate_left
      all_goals try (refine wpAnyH_take (i:=11) (oi:=⟨some 59,_,_,_,_,_⟩) (v:=.string s1) rfl (by decide +kernel) (by decide +kernel) (by decide +kernel) (fun _ _ _ h=>h) (Or.inl ⟨by rfl,fun w hSw=>by go_simp⟩) (by assumption) ?_;(try simp only [Act.put,setIfInBounds_toArray,set_cons_zero,set_cons_succ]);refine wpAnyH_take (i:=12) (oi:=⟨some 60,_,_,_,_,_⟩) (v:=.string s2) rfl (by decide +kernel) (by decide +kernel) (by decide +kernel) (fun _ _ _ h=>h) (Or.inl ⟨by rfl,fun w hSw=>by go_simp⟩) (by assumption) ?_;(try simp only [Act.put,setIfInBounds_toArray,set_cons_zero,set_cons_succ]))
      all_goals
       refine wpAnyH_take (i:=19) (oi:={ dst:=some 67,op:=_,type:=_,pos:=_,after:=_,guard:=_ }) (v:=.string s3) rfl (by kernel_rfl) (by kernel_rfl) (by kernel_rfl) (fun _ _ _ h=>h) (Or.inl ⟨by rfl,fun w hSw=>by first | (go_simp;done) | go_simp⟩) (by assumption) ?_
       (try simp only [Act.put,setIfInBounds_toArray,set_cons_zero,set_cons_succ])
       refine wpAnyH_take (i:=20) (oi:={ dst:=some 68,op:=_,type:=_,pos:=_,after:=_,guard:=_ }) (v:=.string s4) rfl (by kernel_rfl) (by kernel_rfl) (by kernel_rfl) (fun _ _ _ h=>h) (Or.inl ⟨by rfl,fun w hSw=>by first | (go_simp;done) | go_simp⟩) (by assumption) ?_
       (try simp only [Act.put,setIfInBounds_toArray,set_cons_zero,set_cons_succ])
       refine wpAnyH_take (i:=21) (oi:={ dst:=some 69,op:=_,type:=_,pos:=_,after:=_,guard:=_ }) (v:=.string s5) rfl (by kernel_rfl) (by kernel_rfl) (by kernel_rfl) (fun _ _ _ h=>h) (Or.inl ⟨by rfl,fun w hSw=>by first | (go_simp;done) | go_simp⟩) (by assumption) ?_
       (try simp only [Act.put,setIfInBounds_toArray,set_cons_zero,set_cons_succ])
       refine wpAnyH_take (i:=22) (oi:={ dst:=some 5,op:=_,type:=_,pos:=_,after:=_,guard:=_ }) (v:=.string s5) rfl (by kernel_rfl) (by kernel_rfl) (by kernel_rfl) (fun _ _ _ h=>h) (Or.inl ⟨by rfl,fun w hSw=>by first | (go_simp;done) | go_simp⟩) (by assumption) ?_
       (try simp only [Act.put,setIfInBounds_toArray,set_cons_zero,set_cons_succ])
       refine wpAnyH_done (by kernel_rfl) ?_ _
       clear hH
       go_wp2_with fail
       go_roundg (9-(j+1))
      all_goals first | omega | exact⟨j+1,s5,_,rfl,rfl,by omega,HS5.out,rfl,by go_num,HW3.out.1.keep HO3.out,HW3.out.2.trans HO3.out⟩
    ·have t3:decide ((j:Int) < (nD:Int))=false:=decide_eq_false (by omega)
     have HDJ:Hid (ds j=3):=by
      rw [HDS.out]
      unfold dsO
      rw [if_neg (by rw [HD.out.1];exact hjD)]
      exact rfl
     have HS':Hid (S=⟨(hd9++txt ds 0 (j+1)).toArray⟩∧Wb W2 wb (wns ds (j+1))):=by
      refine⟨?_,?_⟩
      ·rw [txt_snoc,Nat.zero_add,HDJ.out,if_neg (by decide),List.append_nil]
       exact HG.out.1
      ·have h:=HW2.out.1
       rw [wns_set ds hlt 1 (by unfold wnt;rw [HDJ.out,if_neg (by decide)];rfl)] at h
       exact h
     go_wp2_with fail
     go_roundg (9-(j+1))
     case measure=>omega
     case rel=>exact⟨j+1,S,_,rfl,rfl,by omega,HS'.out.1,rfl,by go_num,HS'.out.2,HW2.out.2⟩
   ·have t2:decide ((j:Int) < 9)=false:=decide_eq_false (by omega)
    have hj9:j=9:=by omega
    subst hj9
    have HW9:Hid (S=⟨(tx9 ds).toArray⟩∧Wb W wb (wns ds 9)∧Only (fun _=>False) w W):=HG.out
    clear HG
    obtain⟨st,n9,nL,oL,nR,oR,k1,k2,k3,k4,k5,k6,k7,k8,k9⟩:=read_loc ds
    have HRD:Hid (∀ w:World,Calls Tryz.prog 6 #[.string ⟨(tx9 ds).toArray⟩] w fun e w'=>∃ mb,e=.returned (.tuple #[.pointer (some ⟨mb,0,none⟩),.agg #[.int .i64 0,.int .i64 0]])∧Mac w' (w.heap.size+1) mb st 3 n9 nL oL nR oR∧Only (fun _=>False) w w'):=k9
    have HST:Hid (st.list=(rls ds 0 9).map ruleOf∧st.join=0∧st.after=0∧st.treat=(List.range 3).map (fun (q:Nat)=>(q:Int))∧n9=st.list.length∧n9≤9∧Au.make (st.list.map (·.left)) ((3:Nat):Int)=.ok (nL,oL)∧Au.make (st.list.map (·.right)) ((3:Nat):Int)=.ok (nR,oR)):=⟨k1,k2,k3,k4,k5,k6,k7,k8⟩
    clear k1 k2 k3 k4 k5 k6 k7 k8 k9
    go_wp2_with fail
    rw [HW9.out.1]
    refine Calls.mono (HRD.out _) ?_
    rintro e w3 ⟨mb,rfl,hm,ho3⟩
    have H3:Hid (Mac w3 (W.heap.size+1) mb st 3 n9 nL oL nR oR∧Wb w3 wb (wns ds 9)∧Only (fun _=>False) w w3):=⟨hm,HW9.out.2.1.keep ho3,HW9.out.2.2.trans ho3⟩
    clear hm ho3 HRD
    go_upto_region 18 with fail
    obtain⟨f1,hf1⟩:∃ x,x=w3.heap.size:=⟨_,rfl⟩
    obtain⟨w4,hw4⟩:∃ x,x=w3.alloc (.cells #[.int .i64 0,.int .i64 0] 32):=⟨_,rfl⟩
    have H4:Hid (w4.heap[f1]?=some (.cells #[.int .i64 0,.int .i64 0] 32 (0,0))∧Mac w4 (W.heap.size+1) mb st 3 n9 nL oL nR oR∧Wb w4 wb (wns ds 9)∧Only (fun _=>False) w w4):=by
     rw [hw4,hf1]
     exact⟨heap_alloc_new _ _,H3.out.1.keep ((Only.refl _ _).alloc _),H3.out.2.1.keep ((Only.refl _ _).alloc _),H3.out.2.2.alloc _⟩
    rw [←hw4,←hf1]
    clear hw4 hf1 H3
    have hq1:=H4.out.1
    have c0:w4.cell? ⟨f1,0,none⟩=some (.int .i64 0):=cell_blk hq1
    have l1:f1 < w4.heap.size:=(Array.getElem?_eq_some_iff.1 hq1).1
    clear hq1
    obtain⟨i0,hi,hz0,hz1,hz2⟩:=info_parts info3'
    go_wp2_with fail
    clear c0 l1
    go_loopg [11,81] nB (fun gh v i wq=>∃ (q:Nat) (a:Option Addr) (cap:Nat) (V:World),V=wq∧gh=nB-q∧q≤nB∧v=.slice a q cap∧i=.int .i64 (q:Int)∧V.ownsRow w4.heap.size 3 1 (.slice a q cap) q (ints (cM (Bs.take q)))∧Only (fun _=>False) w4 V)
    case atStart=>exact⟨0,none,0,_,rfl,rfl,Nat.zero_le _,rfl,rfl,World.ownsRow_nil _ _ _ _,Only.refl _ _⟩
    case round =>
     obtain⟨q,a,cap,V,hV,rfl,hq,rfl,rfl,hown,ho⟩:=hrel
     subst hV
     have HOW:Hid (V.ownsRow w4.heap.size 3 1 (.slice a q cap) q (ints (cM (Bs.take q)))):=hown
     have HO:Hid (Only (fun _=>False) w4 V):=ho
     by_cases hlt2:q < nB
     ·have t3:(q:Int) < (nB:Int):=by omega
      obtain⟨x,hx⟩:∃ x,Bs[q]?=some x:=⟨_,List.getElem?_eq_getElem (by rw [HB.out.1];exact hlt2)⟩
      have HX:Hid (Bs[q]?=some x):=hx
      obtain⟨bB,oB,rfl,lB0,hcB⟩:=HB.out.at (by omega)
      have p0:=hcB V (H4.out.2.2.2.trans ho) q x hx
      have lB:bB < V.heap.size:=Nat.lt_of_lt_of_le lB0 (H4.out.2.2.2.trans ho).size
      obtain⟨xm,hxm⟩:∃ z,z=m3 x:=⟨_,rfl⟩
      have hx3:=m3_ok x
      rw [←hxm] at hx3
      obtain⟨u,hu⟩:∃ z,z=IntKind.u64.wrap x:=⟨_,rfl⟩
      have r1:IntKind.u64.wrap x=u:=hu.symm
      have r2:u.tmod 3=(xm:Int):=by rw [hu];exact hx3.2
      have r2':u%3=(xm:Int):=by
       have h0:0≤u:=by rw [hu,IntKind.wrap_u64];omega
       rw [←Int.tmod_eq_emod_of_nonneg h0]
       exact r2
      have r3:xm < 3:=hx3.1
      have r4:IntKind.u64.wrap (xm:Int)=(xm:Int):=by rw [IntKind.wrap_u64];omega
      have r5:IntKind.i64.wrap (xm:Int)=(xm:Int):=wrap_small _ (by omega) (by omega)
      have HXM:Hid (xm=m3 x):=hxm
      clear hown ho hx hcB hx3 hxm hu
      go_wp2_with (at_builtin;refine wpList_append_own_at _ rfl _ _ 23 rfl w4.heap.size 3 i0 (.int .i64 0) 1 8 Tryz.underlying23 hi hz0 hz1 hz2 rfl (by decide) _ _ _ rfl (HOW.out.alloc (.cells #[.int .i64 (xm:Int)] 3)) ⟨V.heap.size,0,none⟩ 1 1 [.int .i64 (xm:Int)] rfl rfl (news1 _ _ _) (fun u hu=>by simp at hu;subst hu;rfl) (by unfold maxLen;omega) (by omega) (by have:=HO.out.size;simp;omega) ?_;intro v6 w6 hown6 hg6 _ _;have HO6:Hid (Only (fun _=>False) w4 w6):=(((HO.out.mono (fun _ h=>h.elim)).trans (((Only.refl _ _).alloc _).grown hg6 (fun k h=>h))).old (fun g hg=>Or.inl (HOW.out.lt g hg).1));obtain⟨g6,cap6,rfl,hgb6,hgl6,hgc6,_⟩:=row_form hown6 (by omega);have HOW6:Hid (w6.ownsRow w4.heap.size 3 1 (.slice (some ⟨g6,0,none⟩) (q+1) cap6) (q+1) (ints (cM (Bs.take q))++[.int .i64 (xm:Int)])):=hown6;clear hown6 hg6)
      go_roundg (nB-(q+1))
      case measure=>omega
      case rel =>
       refine⟨q+1,some ⟨g6,0,none⟩,cap6,_,rfl,rfl,by omega,rfl,by go_num,?_,HO6.out⟩
       have h:=HOW6.out
       rw [List.take_add_one,HX.out]
       rw [HXM.out] at h
       unfold cM ints at h⊢
       rw [List.map_append,List.map_append]
       exact h
     ·have t3:decide ((q:Int) < (nB:Int))=false:=decide_eq_false (by omega)
      have hqn:q=nB:=by omega
      subst hqn
      have hlC:(cM Bs).length=q:=by unfold cM;rw [List.length_map];exact HB.out.1
      have HC:Hid (Iw V a q (cM Bs)∧Tz V∧Mac V (W.heap.size+1) mb st 3 n9 nL oL nR oR∧Wb V wb (wns ds 9)∧Only (fun _=>False) w V):=by
       have h:=hown
       rw [List.take_of_length_le (by rw [HB.out.1];exact Nat.le_refl _)] at h
       exact⟨iw_own h hlC.symm,HT.out.keep (H4.out.2.2.2.trans ho),H4.out.2.1.keep ho,H4.out.2.2.1.keep ho,H4.out.2.2.2.trans ho⟩
      clear hown ho
      have hC3:∀ c∈cM Bs,0≤c∧c < ((3:Nat):Int):=fun c hc=>by
       unfold cM at hc
       obtain⟨x,_,rfl⟩:=List.mem_map.1 hc
       have:=(m3_ok x).1
       omega
      obtain⟨C,hCC⟩:∃ C,C=cM Bs:=⟨_,rfl⟩
      have HC3:Hid (∀ c∈C,∃ z:Nat,c=(z:Int)∧z < 3):=fun c hc=>by
       rw [hCC] at hc
       unfold cM at hc
       obtain⟨x,_,rfl⟩:=List.mem_map.1 hc
       exact⟨m3 x,rfl,(m3_ok x).1⟩
      rw [←hCC] at HC hC3 hlC
      have HRN:Hid (Calls Tryz.prog 7 #[.pointer (some ⟨mb,0,none⟩),.slice a q cap] V fun e w'=>∃ g O,e=.returned (.slice (some ⟨g,0,none⟩) (q+1) (q+1))∧Ub w' g O∧O.length=q+1∧(∀ i v,0 < i→i < q→O[i]?=some v→first1 st.list C i v)∧(0 < q→O[0]?=some 0)∧O[q]?=some 2∧Only (fun _=>False) V w'):=plainRun_any st 3 n9 nL oL nR oR _ mb a q cap C V HC.out.2.2.1 HST.out.2.2.2.2.2.2.1 HST.out.2.2.2.2.2.2.2 HST.out.2.2.2.2.1 HST.out.2.2.2.2.2.1 (by decide) HST.out.2.1 (by rw [HST.out.2.2.1];decide) HST.out.2.2.2.1 hC3 HC.out.1 (by omega) HC.out.2.1
      clear hCC hC3
      go_wp2_with fail
      refine Calls.mono HRN.out ?_
      rintro e w5 ⟨g,O,rfl,hUb,hOl,hO,hO0,hOq,ho5⟩
      obtain⟨M,hM⟩:∃ M,M=q+1:=⟨_,rfl⟩
      rw [←hM]
      have HM:Hid (M=q+1):=hM
      have H5:Hid (Ub w5 g O∧(∀ i v,0 < i→i < q→O[i]?=some v→first1 st.list C i v)∧Iw w5 a q C∧Only (fun _=>False) w w5∧Wb w5 wb (wns ds 9)∧O.length=q+1∧(0 < q→O[0]?=some 0)∧C.length=q):=⟨hUb,hO,HC.out.1.keep ho5,HC.out.2.2.2.2.trans ho5,HC.out.2.2.2.1.keep ho5,hOl,hO0,hlC⟩
      have cq:=hUb.cell hOq
      have lg:g < w5.heap.size:=hUb.lt
      have hM5:M≤201:=by omega
      have mw:IntKind.i64.wrap ((q:Int)+1)=(M:Int):=by rw [hM];push_cast;exact wrap_small _ (by omega) (by omega)
      have mw2:(q:Int)+1=(M:Int):=by omega
      have hqM:(q:Int) < (M:Int):=by omega
      have hqMn:q < M:=by omega
      clear hUb hO hOl hO0 hOq ho5 hM HC H4 HOW HO HB HT HRN hlC
      go_wp2_with fail
      clear cq
      go_loopg [15] M (fun gh v wx=>∃ (i m:Nat),wx=w5.drewN m∧gh=M+1-i∧1≤i∧i≤M∧v=.int .i64 (i:Int))
      case atStart=>exact⟨1,0,rfl,by omega,Nat.le_refl _,by omega,rfl⟩
      case round =>
       obtain⟨i,m,rfl,rfl,hi1,hiM,rfl⟩:=hrel
       by_cases hiq:i < q
       ·have t4:(i:Int) < (q:Int):=by omega
        obtain⟨bC,oC,rfl,lC,hcC⟩:=H5.out.2.2.1.at (by omega)
        obtain⟨i1,hi1'⟩:∃ z,z=i-1:=⟨_,rfl⟩
        obtain⟨ca,hca⟩:∃ z,C[i1]?=some z:=⟨_,List.getElem?_eq_getElem (by rw [H5.out.2.2.2.2.2.2.2];omega)⟩
        obtain⟨cb,hcb⟩:∃ z,C[i]?=some z:=⟨_,List.getElem?_eq_getElem (by rw [H5.out.2.2.2.2.2.2.2];omega)⟩
        obtain⟨v,hv⟩:∃ z,O[i]?=some z:=⟨_,List.getElem?_eq_getElem (by rw [H5.out.2.2.2.2.2.1];omega)⟩
        have cA:=hcC w5 (Only.refl _ _) i1 ca hca
        have cB:=hcC w5 (Only.refl _ _) i cb hcb
        have cO:=H5.out.1.cell hv
        obtain⟨a',rfl,ha3⟩:=HC3.out ca (List.mem_of_getElem? hca)
        obtain⟨b',rfl,hb3⟩:=HC3.out cb (List.mem_of_getElem? hcb)
        have hsay:=says9 (ds:=ds) (v:=v) (a:=a') (b:=b') (by omega) (by rw [H5.out.2.2.2.2.2.2.2];exact hiq) (by rw [←hi1'];exact hca) hcb ha3 hb3 (by rw [←HST.out.1];exact H5.out.2.1 i v (by omega) hiq hv)
        have cW:=H5.out.2.2.2.2.1.cell (i:=a'*3+b') (by rw [wns_at ds (by omega),if_pos (by omega)])
        rw [←hsay] at cW
        have lW:=H5.out.2.2.2.2.1.lt
        have t6:(i:Int)-1=(i1:Int):=by omega
        have t7:IntKind.i64.wrap ((i:Int)-1)=(i1:Int):=by rw [t6];exact wrap_small _ (by omega) (by omega)
        have t8:(i1:Int) < (q:Int):=by omega
        have t8n:i1 < q:=by omega
        have tM:(i:Int) < (M:Int):=by omega
        have tMn:i < M:=by omega
        have a3I:(a':Int) < 3:=by omega
        have b3I:(b':Int) < 3:=by omega
        have vv:(v == v)=true:=by simp
        clear hcC hca hcb hv hsay hi1'
        go_wp2_with fail
        go_quiet (fail)
        go_wp2_with fail
        go_roundg (M+1-(i+1))
        case measure=>omega
        case rel=>exact⟨i+1,_,rfl,rfl,by omega,by omega,by go_num⟩
       ·have t4:decide ((i:Int) < (q:Int))=false:=decide_eq_false (by omega)
        have t4':¬ (i:Int) < (q:Int):=by omega
        by_cases hq0:q=0
        ·have z1:((q:Int) == 0)=true:=by rw [beq_iff_eq];omega
         clear hq0
         go_wp2_with fail
         go_ret
         exact⟨rfl,H5.out.2.2.2.1.drewN m⟩
        ·have z1:((q:Int) == 0)=false:=by rw [beq_eq_false_iff_ne];omega
         have c00:=H5.out.1.cell (H5.out.2.2.2.2.2.2.1 (by omega))
         have z2:(0:Int) < (M:Int):=by omega
         have z2n:0 < M:=by omega
         clear hq0
         go_wp2_with fail
         go_ret
         exact⟨rfl,H5.out.2.2.2.1.drewN m⟩
end Lo9
end Go.Proofs.YtchaoonefiamdaaGreatDoor
