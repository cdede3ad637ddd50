/- Mk Awx Sg0 Shl -/
import Derived.Test.YtchaoonefiamdaaGreatDoorZ19
import Derived.Great.Ranges
import Derived.Test.YtchaoonefiamdaaGreatDoorZ20
import Derived.Test.YtchaoonefiamdaaGreatDoorZ16
namespace Go.Proofs.YtchaoonefiamdaaGreatDoor
open Go.RowKit Go.Maps
set_option linter.unusedVariables false
set_option linter.unusedSimpArgs false
open Rl (Ex)
def errN:Nat→Int
  | 1=>2
  | 2=>26
  | _=>27
def makeP (w:World) (cl:Int) (R:Except Nat (List (List Nat) × List Nat)) (e:Ending) (w':World):Prop :=
  (match R with
  | .error k=>e=.returned (.tuple #[noAut,.int .i64 (errN k)])
  | .ok (nx,o)=>∃ v,e=.returned (.tuple #[v,.int .i64 0])∧Aut w' w.heap.size cl.toNat v nx o)∧Only (fun _=>False) w w'
def zP:Array Value:=pC 0 0 (fun _=>0) (fun _=>0) 0 (.slice none 0 0) 0
theorem zc78:Tryz.zeroCells100=zP:=by kernel_rfl
theorem zP_cl (cl:Nat):zP.setIfInBounds 0 (.int .i64 (cl:Int))=pC cl 0 (fun _=>0) (fun _=>0) 0 (.slice none 0 0) 0:=by
  apply Array.ext_getElem?
  intro j
  unfold zP
  rw [Array.getElem?_setIfInBounds,pC_size]
  by_cases hj:j < 904
  · rw [pC_at _ _ _ _ _ _ _ _ hj,pC_at _ _ _ _ _ _ _ _ hj]
    by_cases e:0=j
    · subst e
      rfl
    · rw [if_neg e]
      unfold pcell
      rw [if_neg (show ¬ j=0 from fun h=>e h.symm),if_neg (show ¬ j=0 from fun h=>e h.symm)]
  · rw [if_neg (by omega),Array.getElem?_eq_none (by rw [pC_size];omega),Array.getElem?_eq_none (by rw [pC_size];omega)]
def Lex (w:World) (F:Nat→Prop) (es:List Ex) (a:Option Addr) (c:Nat):Prop:=es.length≤maxLen∧(es≠[]→∃ b off,a=some ⟨b,off,none⟩∧F b∧Tes w F es b off)
theorem Tes.get {w:World} {F:Nat→Prop}:∀ (es:List Ex) (b off i:Nat) (e:Ex),Tes w F es b off→es[i]?=some e→∃ o s k,w.cell? ⟨b,off+i*3,none⟩=some o∧w.cell? ⟨b,off+i*3+1,none⟩=some s∧w.cell? ⟨b,off+i*3+2,none⟩=some k∧Te w F e (.agg #[o,s,k])
  | e0 :: es,b,off,0,e,ht,h=>by
    injection h with h
    subst h
    unfold Tes at ht
    exact ht.1
  | e0 :: es,b,off,i+1,e,ht,h=>by
    unfold Tes at ht
    obtain ⟨o,s,k,h0,h1,h2,h3⟩:=Tes.get es b (off+3) i e ht.2 (by simpa using h)
    rw [show off+3+i*3=off+(i+1)*3 by omega] at h0 h1 h2
    exact ⟨o,s,k,h0,h1,h2,h3⟩
theorem all_step (e:Ex) (es:List Ex) (l:List Au.Nd) (p:Au.Pl):Au.all (e :: es) l p=match Au.node e p with | none=>none | some (x,p1)=>Au.all es (l++[x]) p1:=by
  simp only [Au.all]
  rfl
def orF (l:List Au.Nd):Nat:=l.foldl (fun m x=>m ||| x.first) 0
theorem orF_snoc (l:List Au.Nd) (x:Au.Nd):orF (l++[x])=orF l ||| x.first:=by simp [orF]
theorem byP_zero (cl:Nat):byP cl Au.pl0=fun _=>0:=funext fun c=>by
  unfold byP Au.by' Au.pl0
  simp
theorem by_lt (p:Au.Pl) (h:p.sets.length≤200) (c:Nat):Au.by' p c < 2 ^ 256:=by
  apply Nat.lt_of_lt_of_le (m:=2 ^ p.sets.length)
  · apply Nat.lt_pow_two_of_testBit
    intro i hi
    unfold Au.by'
    rw [fold_bit]
    simp
    omega
  · exact Nat.pow_le_pow_right (by decide) (by omega)
/- MAKE -/
theorem Aut.keep {W W':World} {lo lo' cl:Nat} {v:Value} {nx:List (List Nat)} {o:List Nat} {P:Nat→Prop} (h:Aut W lo cl v nx o) (ho:Only P W W') (hP:∀ b,P b→b < lo) (hl:lo'≤lo):Aut W' lo' cl v nx o:=by
  obtain ⟨rows,vN,vO,h1,h2,h3,h4,h5⟩:=h
  refine ⟨rows,vN,vO,h1,h2,own_mono (own_keep h3 ho (fun q hq e=>by have:=(h3.lt q hq).1;have:=hP q e;omega)) hl,own_mono (own_keep h4 ho (fun q hq e=>by have:=(h4.lt q hq).1;have:=hP q e;omega)) hl,fun r hr=>?_⟩
  obtain ⟨b1,b2,b3⟩:=h5 r hr
  exact ⟨by omega,(ho.block _ (Array.getElem?_eq_some_iff.1 b2).1 (fun e=>by have:=hP _ e;omega)).trans b2,b3⟩
theorem Aut.form {W:World} {lo cl:Nat} {v:Value} {nx:List (List Nat)} {o:List Nat} (h:Aut W lo cl v nx o):∃ aN cN aO cO,v=.agg #[.slice aN nx.length cN,.slice aO o.length cO]:=by
  obtain ⟨rows,vN,vO,h1,h2,h3,h4,h5⟩:=h
  obtain ⟨aN,cN,rfl⟩:=own_form h3
  obtain ⟨aO,cO,rfl⟩:=own_form h4
  exact ⟨aN,cN,aO,cO,by rw [h1,h2,List.length_map]⟩
theorem Lw.lt {w:World} {F:Nat→Prop} {v:Value} {Ls:List Nat} (h:Lw w F v Ls):Lw w (fun b=>b < w.heap.size) v Ls:=by
  obtain ⟨a,c,h1,h2,h3⟩:=h
  refine ⟨a,c,h1,h2,fun i S hS=>?_⟩
  obtain ⟨lb,k1,k2,k3,k4⟩:=h3 i S hS
  exact ⟨lb,k1,k3,k3,k4⟩
set_option maxRecDepth 100000 in
set_option maxHeartbeats 4000000 in
theorem make_range (a:Option Addr) (n c:Nat) (cl:Int) (w:World) (h:cl < 1∨24 < cl∨24 < n) :
    Calls Tryz.prog 19 #[.slice a n c,.int .i64 cl] w fun e w'=>e=.returned (.tuple #[noAut,.int .i64 2])∧Only (fun _=>False) w w':=by
  unfold noAut
  by_cases h1:cl < 1
  · clear h
    go_enter Tryz.func19,Tryz.ntmps19
    go_wp2_with fail
    exact bodyPost_ret (v:=.tuple #[.agg #[.slice none 0 0,.slice none 0 0],.int .i64 2]) (by simp [results,Tryz.results19,go_sem]) rfl ⟨rfl,(Only.refl _ _).alloc _⟩
  · have g1:decide (cl < 1)=false:=decide_eq_false h1
    by_cases h2:24 < cl
    · clear h
      go_enter Tryz.func19,Tryz.ntmps19
      go_wp2_with fail
      exact bodyPost_ret (v:=.tuple #[.agg #[.slice none 0 0,.slice none 0 0],.int .i64 2]) (by simp [results,Tryz.results19,go_sem]) rfl ⟨rfl,(Only.refl _ _).alloc _⟩
    · have g2:decide (24 < cl)=false:=decide_eq_false h2
      have h3:(24:Int) < (n:Int):=by omega
      clear h h1 h2
      go_enter Tryz.func19,Tryz.ntmps19
      go_wp2_with fail
      exact bodyPost_ret (v:=.tuple #[.agg #[.slice none 0 0,.slice none 0 0],.int .i64 2]) (by simp [results,Tryz.results19,go_sem]) rfl ⟨rfl,(Only.refl _ _).alloc _⟩
set_option maxRecDepth 100000 in
set_option maxHeartbeats 8000000 in
theorem make_in (HSt:StsOk) (F:Nat→Prop) (es:List Ex) (a:Option Addr) (c cl:Nat) (w:World) (hL:Lex w F es a c) (hF:∀ b,F b→b < w.heap.size) (hD:∀ e∈es,Au.dp e≤1000000) (hcl1:1≤cl) (hcl:cl≤24) (hn:es.length≤24) :
    Calls Tryz.prog 19 #[.slice a es.length c,.int .i64 (cl:Int)] w (makeP w (cl:Int) (Au.make es (cl:Int))):=by
  have hmk:Au.make es (cl:Int)=match Au.all es [] Au.pl0 with
    | none=>.error 2
    | some (nd,p)=>match Au.states p nd (orF nd) cl 301 0 [0] [] [] with
      | none=>.error 3
      | some r=>.ok r:=by
    unfold Au.make
    rw [if_neg (by omega)]
    rfl
  have HMK:Hid (Au.make es (cl:Int)=match Au.all es [] Au.pl0 with
    | none=>.error 2
    | some (nd,p)=>match Au.states p nd (orF nd) cl 301 0 [0] [] [] with
      | none=>.error 3
      | some r=>.ok r):=hmk
  have HL:Hid (Lex w F es a c):=hL
  have HF:Hid (∀ b,F b→b < w.heap.size):=hF
  have HD:Hid (∀ e∈es,Au.dp e≤1000000):=hD
  have HS:Hid StsOk:=HSt
  clear hmk hL hF hD HSt
  obtain ⟨n,hnn⟩:∃ n,n=es.length:=⟨_,rfl⟩
  have HN:Hid (n=es.length):=hnn
  rw [← hnn] at hn ⊢
  clear hnn
  have g1:decide ((cl:Int) < 1)=false:=decide_eq_false (by omega)
  have g2:decide (24 < (cl:Int))=false:=decide_eq_false (by omega)
  have g3:decide (24 < (n:Int))=false:=decide_eq_false (by omega)
  have HP0:Hid (Plm ((w.alloc (.cells #[.slice none 0 0,.slice none 0 0] 63)).alloc (.cells (Tryz.zeroCells100.setIfInBounds 0 (.int .i64 (cl:Int))) 100)) (w.heap.size+1) cl Au.pl0 (orF []) (.slice none 0 0) (emK [])):=by
    rw [zc78,zP_cl]
    unfold Plm
    rw [byP_zero]
    exact heap_alloc2_new _ _ _
  have HB0:Hid (((w.alloc (.cells #[.slice none 0 0,.slice none 0 0] 63)).alloc (.cells (Tryz.zeroCells100.setIfInBounds 0 (.int .i64 (cl:Int))) 100)).heap[w.heap.size]?=some (.cells #[.slice none 0 0,.slice none 0 0] 63 (0,0))):=(Below.heap_alloc _ _ _ (by simp)).trans (heap_alloc_new _ _)
  have HO0:Hid (Only (fun h=>w.heap.size≤h) w ((w.alloc (.cells #[.slice none 0 0,.slice none 0 0] 63)).alloc (.cells (Tryz.zeroCells100.setIfInBounds 0 (.int .i64 (cl:Int))) 100))):=((Only.refl _ _).alloc _).alloc _
  go_enter Tryz.func19,Tryz.ntmps19
  go_wp2_with fail
  go_loopg [26] n (fun gh v wr=>∃ (k:Nat) (l:List Au.Nd) (p1:Au.Pl) (vL:Value) (W:World),W=wr∧gh=n - k∧k≤n∧v=.int .i64 (k:Int)∧l.length=k∧Au.all (es.drop k) l p1=Au.all es [] Au.pl0∧Au.OkP p1∧p1.sets.length≤200∧(∀ x∈l,Au.OkN p1 x)∧Plm W (w.heap.size+1) cl p1 (orF l) vL (emK l)∧W.ownsRow ((w.heap.size+1)+1) 95 4 vL l.length (flS (l.map (·.last)))∧W.heap[w.heap.size]?=some (.cells #[.slice none 0 0,.slice none 0 0] 63 (0,0))∧Only (fun h=>w.heap.size≤h) w W)
  case atStart=>exact ⟨0,[],Au.pl0,.slice none 0 0,_,rfl,rfl,Nat.zero_le _,rfl,rfl,rfl,fun i=>⟨Nat.two_pow_pos _,fun _=>rfl⟩,Nat.zero_le _,(fun x hx=>by cases hx),HP0.out,World.ownsRow_nil _ _ _ _,HB0.out,HO0.out⟩
  case round =>
    obtain ⟨k,l,p1,vL,W,hW,rfl,hk,rfl,hlk,hall,hok,hp2,hokN,hP,hV,hB,hO⟩:=hrel
    subst hW
    have HP1:Hid (Plm W (w.heap.size+1) cl p1 (orF l) vL (emK l)):=hP
    have HV:Hid (W.ownsRow ((w.heap.size+1)+1) 95 4 vL l.length (flS (l.map (·.last)))):=hV
    have HB:Hid (W.heap[w.heap.size]?=some (.cells #[.slice none 0 0,.slice none 0 0] 63 (0,0))):=hB
    have HO:Hid (Only (fun h=>w.heap.size≤h) w W):=hO
    have HAll:Hid (Au.all (es.drop k) l p1=Au.all es [] Au.pl0):=hall
    have HOK:Hid (Au.OkP p1∧p1.sets.length≤200∧(∀ x∈l,Au.OkN p1 x)):=⟨hok,hp2,hokN⟩
    have HLK:Hid (l.length=k):=hlk
    have hgW:w.heap.size+1 < W.heap.size:=hP.lt
    clear hP hV hB hO hall hok hp2 hokN hlk HP0 HB0 HO0
    by_cases hlt4:k < n
    · have t1:(k:Int) < (n:Int):=by omega
      obtain ⟨ex,hex⟩:∃ ex,es[k]?=some ex:=⟨_,List.getElem?_eq_getElem (by rw [← HN.out];exact hlt4)⟩
      obtain ⟨b,off,rfl,hFb,hTes⟩:=HL.out.2 (by intro e;rw [e] at hex;simp at hex)
      obtain ⟨o0,s0,k0,d0,d1,d2,hTe⟩:=Tes.get es b off k ex hTes hex
      have hbl:=HF.out b hFb
      have hKp:Kp w W F:=Kp.only HO.out (fun b hb=>by have:=HF.out b hb;omega)
      obtain ⟨op,set,a',n',c',hv⟩:∃ op set a' n' c',Value.agg #[o0,s0,k0]=.agg #[.int .u8 op,.int .u32 set,.slice a' n' c']:=by
        obtain ⟨o,s,kids⟩:=ex
        obtain ⟨a,cap,h,_⟩:=hTe.kids
        exact ⟨o,s,a,_,cap,h⟩
      simp only [Value.agg.injEq,Array.mk.injEq,List.cons.injEq,and_true] at hv
      obtain ⟨rfl,rfl,rfl⟩:=hv
      have c0:=hKp b hFb _ _ d0
      have c1:=hKp b hFb _ _ d1
      have c2:=hKp b hFb _ _ d2
      have hTW:Te W F ex (.agg #[.int .u8 op,.int .u32 set,.slice a' n' c']):=Te.keep hKp (fun _ h=>h) ex _ hTe
      have hA:Only (fun _=>False) W (W.alloc (.cells #[.int .u8 op,.int .u32 set,.slice a' n' c'] 88)):=(Only.refl _ _).alloc _
      have HC:Hid (Calls Tryz.prog 35 #[.pointer (some ⟨w.heap.size+1,0,none⟩),.agg #[.int .u8 op,.int .u32 set,.slice a' n' c']] (W.alloc (.cells #[.int .u8 op,.int .u32 set,.slice a' n' c'] 88)) (readP (W.alloc (.cells #[.int .u8 op,.int .u32 set,.slice a' n' c'] 88)) (w.heap.size+1) cl (orF l) (emK l) (l.map (·.last)) (Au.node ex p1))):=by
        have:=read_any F (w.heap.size+1) cl p1 (orF l) vL (emK l) (l.map (·.last)) ex _ (W.alloc (.cells #[.int .u8 op,.int .u32 set,.slice a' n' c'] 88)) (HP1.out.only hA (fun h=>h)) (by rw [List.length_map];exact HV.out.alloc _) (by rw [List.length_map,HLK.out];omega) (emK_lt l (by rw [HLK.out];omega)) HOK.out.1 HOK.out.2.1 hcl (Te.keep (Kp.only hA (fun _ _ h=>h)) (fun _ h=>h) ex _ hTW) (fun b hb=>by have:=HF.out b hb;omega) (HD.out ex (List.mem_of_getElem? hex))
        exact this
      have hal:=HAll.out
      rw [List.drop_eq_getElem_cons (by rw [← HN.out];exact hlt4)] at hal
      have he:es[k]'(by rw [← HN.out];exact hlt4)=ex:=(List.getElem?_eq_some_iff.1 hex).2
      rw [he,all_step] at hal
      have HAL:Hid ((match Au.node ex p1 with | none=>none | some (x,p2)=>Au.all (es.drop (k+1)) (l++[x]) p2)=Au.all es [] Au.pl0):=hal
      clear hal he d0 d1 d2 hTe hTW hKp hTes hA
      cases hnd:Au.node ex p1 with
      | none =>
        have HND:Hid (Au.node ex p1=none):=hnd
        have hal2:=HAL.out
        rw [hnd] at hal2
        have HR:Hid (Au.make es (cl:Int)=.error 2):=by rw [HMK.out,← hal2];exact rfl
        clear hnd hal2
        go_wp2_with (go_at_call 35;have hc:=HC.out;rw [HND.out] at hc;refine hc.mono ?_;clear hc;rintro e w2 ⟨rfl,ho2⟩;have HB2:Hid (w2.heap[w.heap.size]?=some (.cells #[.slice none 0 0,.slice none 0 0] 63 (0,0))):=(ho2.block _ (by simp;omega) (by omega)).trans ((Below.heap_alloc _ _ _ (by omega)).trans HB.out);have HO2:Hid (Only (fun h=>w.heap.size≤h) w w2):=(HO.out.alloc _).trans (ho2.mono (fun _ h=>by omega));have r0:w2.cell? ⟨w.heap.size,0,none⟩=some (.slice none 0 0):=cell_blk HB2.out;have r1:w2.cell? ⟨w.heap.size,1,none⟩=some (.slice none 0 0):=cell_blk HB2.out;have r2:=fz_blk HB2.out 0;have r3:=fz_blk HB2.out 1;clear ho2)
        refine bodyPost_ret (v:=.tuple #[noAut,.int .i64 26]) (results_row1 (p:=4) (u:=5) rfl _ _ w.heap.size 63 #[.slice none 0 0,.slice none 0 0] (0,0) _ rfl (heap_setCell_at (heap_setCell_at HB2.out _) _) Tryz.underlying63 rfl sz33 rfl) rfl ?_
        rw [HR.out]
        refine ⟨rfl,?_⟩
        exact Only.old (P:=fun h=>w.heap.size≤h) (Only.setCell (S:=fun h=>w.heap.size≤h) (Only.setCell (S:=fun h=>w.heap.size≤h) HO2.out (p:=⟨w.heap.size,0,none⟩) (Nat.le_refl w.heap.size) _) (p:=⟨w.heap.size,1,none⟩) (Nat.le_refl w.heap.size) _) (fun _ h=>Or.inl h)
      | some r =>
        obtain ⟨x,p2⟩:=r
        have HND:Hid (Au.node ex p1=some (x,p2)):=hnd
        obtain ⟨q1,q2,q3⟩:=Au.node_ok ex p1 HOK.out.1 x p2 hnd
        have q4:=Au.node_cnt ex p1 HOK.out.2.1
        rw [hnd] at q4
        simp only at q4
        have HQ:Hid (Au.OkP p2∧p2.sets.length≤200∧(∀ y∈l++[x],Au.OkN p2 y)):=⟨q1,q4.2,fun y hy=>by
          rcases List.mem_append.1 hy with hy | hy
          · exact (HOK.out.2.2 y hy).mono q3
          · simp at hy;rw [hy];exact q2⟩
        have hal2:=HAL.out
        rw [hnd] at hal2
        have HA2:Hid (Au.all (es.drop (k+1)) (l++[x]) p2=Au.all es [] Au.pl0):=hal2
        clear hnd hal2 q1 q2 q3 q4
        go_wp2_with (go_at_call 35;have hc:=HC.out;rw [HND.out] at hc;refine hc.mono ?_;clear hc;rintro e w2 ⟨rfl,⟨vL2,hp2,hv2⟩,ho2⟩;have HB2:Hid (w2.heap[w.heap.size]?=some (.cells #[.slice none 0 0,.slice none 0 0] 63 (0,0))):=(ho2.block _ (by simp;omega) (by omega)).trans ((Below.heap_alloc _ _ _ (by omega)).trans HB.out);have HO2:Hid (Only (fun h=>w.heap.size≤h) w w2):=(HO.out.alloc _).trans (ho2.mono (fun _ h=>by omega));have HPX:Hid (Plm w2 (w.heap.size+1) cl p2 (orF l ||| x.first) vL2 (if x.none=true then emK l ||| 2 ^ (l.map (·.last)).length else emK l)):=hp2;have HVX:Hid (w2.ownsRow (w.heap.size+1+1) 95 4 vL2 ((l.map (·.last)).length+1) (flS (l.map (·.last)++[x.last]))):=hv2;clear ho2 hp2 hv2)
        go_roundg (n - (k+1))
        case measure=>omega
        case rel =>
          refine ⟨k+1,l++[x],p2,vL2,_,rfl,rfl,by omega,by go_num,by simp [HLK.out],HA2.out,HQ.out.1,HQ.out.2.1,HQ.out.2.2,?_,?_,HB2.out,HO2.out⟩
          · rw [orF_snoc,emK_snoc]
            have:=HPX.out
            rw [List.length_map] at this
            exact this
          · have:=HVX.out
            rw [List.length_map] at this
            rw [List.map_append,List.length_append]
            exact this
    · have t2:decide ((k:Int) < (n:Int))=false:=decide_eq_false (by omega)
      obtain rfl:k=n:=by omega
      have hal:=HAll.out
      rw [List.drop_eq_nil_of_le (by rw [← HN.out];exact Nat.le_refl _)] at hal
      simp only [Au.all] at hal
      have HC:Hid (Calls Tryz.prog 36 #[.pointer (some ⟨w.heap.size+1,0,none⟩)] W (stsP W cl (Au.states p1 l (orF l) cl 301 0 [0] [] []))):=HS.out (w.heap.size+1) cl p1 l (orF l) vL W HP1.out (Lw.lt (Lw.row (by rw [List.length_map];exact HV.out))) HOK.out.2.1 hcl (by rw [HLK.out];omega) (fun y hy=>by
        obtain ⟨z,hz,rfl⟩:=List.mem_map.1 hy
        exact lt256 HOK.out.2.1 (HOK.out.2.2 z hz).2) (by_lt p1 HOK.out.2.1)
      have hmk2:=HMK.out
      rw [← hal] at hmk2
      simp only at hmk2
      have HM2:Hid (Au.make es (cl:Int)=match Au.states p1 l (orF l) cl 301 0 [0] [] [] with | none=>.error 3 | some r=>.ok r):=hmk2
      clear hal hmk2
      cases hst:Au.states p1 l (orF l) cl 301 0 [0] [] [] with
      | none =>
        have HST:Hid (Au.states p1 l (orF l) cl 301 0 [0] [] []=none):=hst
        have HR:Hid (Au.make es (cl:Int)=.error 3):=by rw [HM2.out,hst];exact rfl
        clear hst
        go_wp2_with (go_at_call 36;have hc:=HC.out;rw [HST.out] at hc;refine hc.mono ?_;clear hc;rintro e w2 ⟨rfl,ho2⟩;have HB2:Hid (w2.heap[w.heap.size]?=some (.cells #[.slice none 0 0,.slice none 0 0] 63 (0,0))):=(ho2.block _ (by omega) (fun h=>h)).trans HB.out;have HO2:Hid (Only (fun h=>w.heap.size≤h) w w2):=HO.out.trans (ho2.mono (fun _ h=>h.elim));have r0:w2.cell? ⟨w.heap.size,0,none⟩=some (.slice none 0 0):=cell_blk HB2.out;have r1:w2.cell? ⟨w.heap.size,1,none⟩=some (.slice none 0 0):=cell_blk HB2.out;have r2:=fz_blk HB2.out 0;have r3:=fz_blk HB2.out 1;clear ho2;unfold noAut)
        refine bodyPost_ret (v:=.tuple #[noAut,.int .i64 27]) (results_row1 (p:=4) (u:=5) rfl _ _ w.heap.size 63 #[.slice none 0 0,.slice none 0 0] (0,0) _ rfl (heap_setCell_at (heap_setCell_at HB2.out _) _) Tryz.underlying63 rfl sz33 rfl) rfl ?_
        rw [HR.out]
        refine ⟨rfl,?_⟩
        exact Only.old (P:=fun h=>w.heap.size≤h) (Only.setCell (S:=fun h=>w.heap.size≤h) (Only.setCell (S:=fun h=>w.heap.size≤h) HO2.out (p:=⟨w.heap.size,0,none⟩) (Nat.le_refl w.heap.size) _) (p:=⟨w.heap.size,1,none⟩) (Nat.le_refl w.heap.size) _) (fun _ h=>Or.inl h)
      | some r =>
        obtain ⟨nx,o⟩:=r
        have HST:Hid (Au.states p1 l (orF l) cl 301 0 [0] [] []=some (nx,o)):=hst
        have HR:Hid (Au.make es (cl:Int)=.ok (nx,o)):=by rw [HM2.out,hst];exact rfl
        clear hst
        go_wp2_with (go_at_call 36;have hc:=HC.out;rw [HST.out] at hc;refine hc.mono ?_;clear hc;rintro e w2 ⟨⟨v,rfl,hA⟩,ho2⟩;have HAu:Hid (Aut w2 W.heap.size cl v nx o):=hA;obtain ⟨aN,cN,aO,cO,rfl⟩:=hA.form;have HB2:Hid (w2.heap[w.heap.size]?=some (.cells #[.slice none 0 0,.slice none 0 0] 63 (0,0))):=(ho2.block _ (by omega) (fun h=>h)).trans HB.out;have HO2:Hid (Only (fun h=>w.heap.size≤h) w w2):=HO.out.trans (ho2.mono (fun _ h=>h.elim));have r0:w2.cell? ⟨w.heap.size,0,none⟩=some (.slice none 0 0):=cell_blk HB2.out;have r1:w2.cell? ⟨w.heap.size,1,none⟩=some (.slice none 0 0):=cell_blk HB2.out;have r2:=fz_blk HB2.out 0;have r3:=fz_blk HB2.out 1;clear ho2 hA)
        have hS2:Only (·=w.heap.size) w2 ((w2.setCell ⟨w.heap.size,0,none⟩ (.slice aN nx.length cN)).setCell ⟨w.heap.size,1,none⟩ (.slice aO o.length cO)):=Only.setCell (S:=(·=w.heap.size)) (Only.setCell (S:=(·=w.heap.size)) (Only.refl _ _) (p:=⟨w.heap.size,0,none⟩) rfl _) (p:=⟨w.heap.size,1,none⟩) rfl _
        refine bodyPost_ret (v:=.tuple #[.agg #[.slice aN nx.length cN,.slice aO o.length cO],.int .i64 0]) (results_row1 (p:=4) (u:=5) rfl _ _ w.heap.size 63 #[.slice aN nx.length cN,.slice aO o.length cO] (0,0) _ rfl (heap_setCell_at (heap_setCell_at HB2.out _) _) Tryz.underlying63 rfl sz33 rfl) rfl ?_
        rw [HR.out]
        refine ⟨⟨_,rfl,?_⟩,(HO2.out.trans (hS2.mono (fun _ h=>by omega))).old (fun _ h=>Or.inl h)⟩
        exact HAu.out.keep hS2 (fun b hb=>by omega) (by omega)
end Go.Proofs.YtchaoonefiamdaaGreatDoor
namespace Go.Proofs.YtchaoonefiamdaaGreatDoor
open Go.RowKit Go.Maps
set_option linter.unusedVariables false
set_option linter.unusedSimpArgs false
open Rl (Ex)
theorem make_all (F:Nat→Prop) (es:List Ex) (a:Option Addr) (c:Nat) (cl:Int) (w:World) (hL:Lex w F es a c) (hF:∀ b,F b→b < w.heap.size) (hD:∀ e∈es,Au.dp e≤1000000) :
    Calls Tryz.prog 19 #[.slice a es.length c,.int .i64 cl] w (makeP w cl (Au.make es cl)):=by
  by_cases h:cl < 1∨24 < cl∨24 < es.length
  · have e:Au.make es cl=.error 1:=by unfold Au.make;rw [if_pos h]
    rw [e]
    exact make_range a es.length c cl w (by omega)
  · obtain ⟨n,rfl⟩:∃ n:Nat,cl=(n:Int):=⟨cl.toNat,by omega⟩
    exact make_in (fun g cl p l fs vL w h1 h2 h3 h4 h5 h6 h7=>states_any g cl p l fs vL w h1 h2 h3 h4 h5 h6 h7) F es a c n w hL hF hD (by omega) (by omega) (by omega)
theorem Aut.outs {W:World} {lo cl:Nat} {v:Value} {nx:List (List Nat)} {o:List Nat} (h:Aut W lo cl v nx o) (h0:0 < o.length):∃ aN cN ob cO,v=.agg #[.slice aN nx.length cN,.slice (some ⟨ob,0,none⟩) o.length cO]∧ob < W.heap.size∧∀ (j x:Nat),o[j]?=some x→W.cell? ⟨ob,j,none⟩=some (.int .u32 (x:Int)):=by
  obtain ⟨rows,vN,vO,h1,h2,h3,h4,h5⟩:=h
  obtain ⟨aN,cN,rfl⟩:=own_form h3
  obtain ⟨ob,cO,rfl,_,hl,_,hc⟩:=row_form h4 h0
  refine ⟨aN,cN,ob,cO,by rw [h1,h2,List.length_map],hl,fun j x hj=>?_⟩
  have hlt:=(List.getElem?_eq_some_iff.1 hj).1
  rw [hc j (by omega),List.getElem?_map,hj]
  rfl
def eA (s:Int):Ex:=.mk 1 s []
theorem Te.leaf (w:World) (F:Nat→Prop) (s:Int) (h0:0≤s) (h1:s < 4294967296):Te w F (eA s) (.agg #[.int .u8 1,.int .u32 s,.slice none 0 0]):=by
  unfold eA Te
  exact ⟨none,0,rfl,Nat.le_refl _,by unfold maxLen;simp,h0,h1,fun h=>absurd rfl h⟩
theorem Lex.one {w:World} {b:Nat} {e:Ex} {o s k:Value} {c:Nat} (hb:w.heap[b]?=some (.cells #[o,s,k] 88 (0,0))) (he:Te w (fun b=>b < w.heap.size) e (.agg #[o,s,k])):Lex w (fun b=>b < w.heap.size) [e] (some ⟨b,0,none⟩) c:=by
  refine ⟨by unfold maxLen;simp,fun _=>⟨b,0,rfl,(Array.getElem?_eq_some_iff.1 hb).1,?_⟩⟩
  unfold Tes
  exact ⟨⟨o,s,k,cell_blk hb,cell_blk hb,cell_blk hb,he⟩,by unfold Tes;trivial⟩
end Go.Proofs.YtchaoonefiamdaaGreatDoor
namespace Go.Proofs.YtchaoonefiamdaaGreatDoor
open Go.RowKit Go.Maps
set_option linter.unusedVariables false
set_option linter.unusedSimpArgs false
def clO (n c:Int):Int:=if n < 0∨c≤n then 0 else n
theorem clO_lt {n c:Int} (h:0 < c):0≤clO n c∧clO n c < c:=by
  unfold clO
  split <;> omega
theorem clO_self {n c:Int} (h:0≤n) (h1:n < c):clO n c=n:=by
  unfold clO
  rw [if_neg (by omega)]
set_option maxRecDepth 100000 in
set_option maxHeartbeats 1000000 in
theorem classOf_any (n c:Int) (w:World):Calls Tryz.prog 23 #[.int .i64 n,.int .i64 c] w fun e w'=>e=.returned (.int .i64 (clO n c))∧w'=w:=by
  by_cases h0:n < 0
  · have hw:clO n c=0:=if_pos (Or.inl h0)
    rw [hw]
    go_enter Tryz.func23,Tryz.ntmps23
    go_wp2_with fail
    go_ret
    exact ⟨rfl,rfl⟩
  · by_cases h1:c≤n
    · have hw:clO n c=0:=if_pos (Or.inr h1)
      rw [hw]
      go_enter Tryz.func23,Tryz.ntmps23
      go_wp2_with fail
      go_ret
      exact ⟨rfl,rfl⟩
    · have hw:clO n c=n:=if_neg (by omega)
      rw [hw]
      go_enter Tryz.func23,Tryz.ntmps23
      go_wp2_with fail
      go_ret
      exact ⟨rfl,rfl⟩
set_option maxRecDepth 100000 in
set_option maxHeartbeats 1000000 in
theorem hasC_any (s:Int) (k:Nat) (h0:0≤s) (h1:s < 4294967296) (hk:k < 32) (w:World):Calls Tryz.prog 24 #[.int .u32 s,.int .i64 (k:Int)] w fun e w'=>e=.returned (.bool (decide (s / 2 ^ k % 2=1)))∧w'=w:=by
  have HQ:Hid ((bits .and .u32 (s / 2 ^ k) 1 == 1)=decide (s / 2 ^ k % 2=1)):=and1u h0 h1 k
  go_enter Tryz.func24,Tryz.ntmps24
  go_wp2_with fail
  go_ret
  rw [HQ.out]
  exact ⟨rfl,rfl⟩
end Go.Proofs.YtchaoonefiamdaaGreatDoor
namespace Go.Proofs.YtchaoonefiamdaaGreatDoor
open Go.RowKit Go.Maps
set_option linter.unusedVariables false
set_option linter.unusedSimpArgs false
theorem wrap_pow (n:Nat) (hn:n≤24):IntKind.u32.wrap (1*2 ^ n)=2 ^ n:=by
  rw [IntKind.wrap_u32,Int.one_mul]
  exact (pow24 ⟨n,by omega⟩).2.1
set_option maxRecDepth 100000 in
theorem shl_op {a:Act} {o:Oper} {t:Operand} {n:Nat} (ho:o.op=.binOp .shl 42 (.const (.int .u32 1)) t 3) (ht:a.eval t=.int .i64 (n:Int)) (hn:n≤24) (w:World):(execOp a.eval o).run Tryz.prog w=.ok (.value (.int .u32 (2 ^ n))) w:=by
  have hc:a.eval (.const (.int .u32 1))=.int .u32 1:=rfl
  unfold execOp
  rw [ho]
  simp only [ht,hc]
  simp [go_sem]
  have:=wrap_pow n hn
  rw [Int.one_mul] at this
  exact this
theorem wp_put0 {P:Program} (w:World) {o:Oper} {a:Act} {K:Act→World→Prop} {Q:Exit→Act→World→Prop} (hd:o.dst=none) (m x v:Operand) (t:TypeId) (hop:o.op=Op.mapUpdate t m x v)
    (k e:TypeId) (L:Keyed P k) (ht:P.underlying t=some (.map k e)) (R:Value→Option (DataW Unit × List MemPlace)) (b n:Nat) (D:DataW Unit)
    (hm:a.eval m=.map (some b)) (hown:w.ownsMap P k R b n D) (hn:n < maxLen) (key val:Value) (kl:Lit) (hx:a.eval x=key) (hv:a.eval v=val) (hkey:keyOf P k key=some kl)
    (d:DataW Unit) (ps:List MemPlace) (hval:R val=some (d,ps))
    (h:∀ w',w'.ownsMap P k R b (n+1) (D.put kl d)→w.grownBy w' (some b)→K a w'):o.wp P a w K Q :=
  wp_put w m x v t hop k e L ht R b n D hm hown hn key val kl hx hv hkey d ps hval (fun w' h1 h2=>by rw [hd];exact h w' h1 h2)
theorem ready_put {P:Program} {md:Region.Mode} {ops:Array Oper} {Q:Exit→Act→World→Prop} {S:World→Prop} {fuel:Nat} {listed:Array Bool} {a:Act} {w:World} {i:Nat} {o:Oper} (ho:ops[i]?=some o) (hgd:o.guard=none) (hd:o.dst=none) (m x v:Operand) (t:TypeId) (hop:o.op=Op.mapUpdate t m x v)
    (k e:TypeId) (L:Keyed P k) (ht:P.underlying t=some (.map k e)) (R:Value→Option (DataW Unit × List MemPlace)) (b n:Nat) (D:DataW Unit)
    (hm:a.eval m=.map (some b)) (hown:w.ownsMap P k R b n D) (hn:n < maxLen) (key val:Value) (kl:Lit) (hx:a.eval x=key) (hv:a.eval v=val) (hkey:keyOf P k key=some kl)
    (d:DataW Unit) (ps:List MemPlace) (hval:R val=some (d,ps))
    (h:∀ w',w'.ownsMap P k R b (n+1) (D.put kl d)→w.grownBy w' (some b)→S w'∧wpAnyH P md ops Q S fuel (listed.setIfInBounds i true) a w'):AllReadyH P md ops Q S fuel listed a w [i] :=
  AllReadyH.cons ho (fun K hK=>step_of_wp hgd (wp_put0 w hd m x v t hop k e L ht R b n D hm hown hn key val kl hx hv hkey d ps hval (fun w' h1 h2=>hK.out a w' (h w' h1 h2).1 (fun _=>(h w' h1 h2).2)))) AllReadyH.nil
theorem pow_range (n:Nat) (hn:n≤24):0≤(2:Int) ^ n∧(2:Int) ^ n < 4294967296:=by
  have h:=pow24 ⟨n,by omega⟩
  have h1:1≤(2:Int) ^ n:=h.2.2.1
  have h2:(2:Int) ^ n≤16777216:=h.2.2.2
  generalize (2:Int) ^ n=b at h1 h2 ⊢
  omega
end Go.Proofs.YtchaoonefiamdaaGreatDoor
