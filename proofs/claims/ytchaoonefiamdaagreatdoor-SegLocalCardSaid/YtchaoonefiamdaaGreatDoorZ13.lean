/- May Lines1 -/
import Derived.Test.YtchaoonefiamdaaGreatDoorZ12
import Derived.Test.YtchaoonefiamdaaGreatDoorZ11
namespace Go.Proofs.YtchaoonefiamdaaGreatDoor
open Go.RowKit Go.Maps
set_option linter.unusedVariables false
set_option linter.unusedSimpArgs false
def mayK (nx:Nat→Nat) (fs S k:Nat):Nat:=(List.range k).foldl (fun m i=>if S.testBit i=true then m ||| nx i else m) fs
theorem mayK_succ (nx:Nat→Nat) (fs S k:Nat):mayK nx fs S (k+1)=if S.testBit k=true then mayK nx fs S k ||| nx k else mayK nx fs S k:=by
  unfold mayK
  rw [List.range_succ,List.foldl_append]
  rfl
set_option maxRecDepth 100000 in
set_option maxHeartbeats 4000000 in
theorem mayc_any (g cl n:Nat) (b nx:Nat→Nat) (fs:Nat) (vL:Value) (em S:Nat) (w:World) (hP:Plb w g cl n b nx fs vL em) (hn:n≤200) :
    Calls Tryz.prog 56 #[.pointer (some ⟨g,0,none⟩),sV S] w fun e w'=>e=.returned (sV (mayK nx fs S n))∧Only (fun _=>False) w w':=by
  have hlt:=hP.lt
  have hlt1:g < w.heap.size+1:=by omega
  have hlt2:g < w.heap.size+1+1:=by omega
  have HP:Hid (Plb w g cl n b nx fs vL em):=hP
  have hc1:=hP.c1
  have e0:w.cell? ⟨g,898,none⟩=some (.int .u64 (wd fs 0:Int)):=(cell_blk hP).trans (pC_first _ _ _ _ _ _ _ 0 (by decide))
  have e1:w.cell? ⟨g,899,none⟩=some (.int .u64 (wd fs 1:Int)):=(cell_blk hP).trans (pC_first _ _ _ _ _ _ _ 1 (by decide))
  have e2:w.cell? ⟨g,900,none⟩=some (.int .u64 (wd fs 2:Int)):=(cell_blk hP).trans (pC_first _ _ _ _ _ _ _ 2 (by decide))
  have e3:w.cell? ⟨g,901,none⟩=some (.int .u64 (wd fs 3:Int)):=(cell_blk hP).trans (pC_first _ _ _ _ _ _ _ 3 (by decide))
  clear hP
  have z4:#[Value.int .u64 0,.int .u64 0,.int .u64 0,.int .u64 0]=sC 0:=by simp [sC,wd_zero]
  have S0:Hid (Sb (((w.alloc (.cells (sC S) 95)).alloc (.cells #[.int .u64 0,.int .u64 0,.int .u64 0,.int .u64 0] 95)).alloc (.cells (sC fs) 95)) w.heap.size S):=((Sb.new w S).alloc _).alloc _
  have S1:Hid (Sb (((w.alloc (.cells (sC S) 95)).alloc (.cells #[.int .u64 0,.int .u64 0,.int .u64 0,.int .u64 0] 95)).alloc (.cells (sC fs) 95)) (w.heap.size+1) 0):=by rw [z4];exact Sb.alloc (heap_alloc2_new _ _ _) _
  have S2:Hid (Sb (((w.alloc (.cells (sC S) 95)).alloc (.cells #[.int .u64 0,.int .u64 0,.int .u64 0,.int .u64 0] 95)).alloc (.cells (sC fs) 95)) (w.heap.size+1+1) fs):=heap_alloc3_new _ _ _ _
  have O0:Hid (Only (fun h=>w.heap.size≤h) w (((w.alloc (.cells (sC S) 95)).alloc (.cells #[.int .u64 0,.int .u64 0,.int .u64 0,.int .u64 0] 95)).alloc (.cells (sC fs) 95))):=(((Only.refl _ _).alloc _).alloc _).alloc _
  clear z4
  unfold sV
  unfold sC at S0 S1 S2 O0 ⊢
  go_enter Tryz.func56,Tryz.ntmps56
  go_wp2_with fail
  go_loopg [15] n (fun gh v wr=>∃ (k:Nat) (W:World),W=wr∧gh=n - k∧k≤n∧v=.int .i64 (k:Int)∧Sb W w.heap.size S∧Sb W (w.heap.size+1) 0∧Sb W (w.heap.size+1+1) (mayK nx fs S k)∧Only (fun h=>w.heap.size≤h) w W)
  case atStart=>exact ⟨0,_,rfl,rfl,Nat.zero_le _,rfl,S0.out,S1.out,S2.out,O0.out⟩
  case round =>
    obtain ⟨k,W,hW,rfl,hk,rfl,hA,hB,hC,hO⟩:=hrel
    subst hW
    have HA:Hid (Sb W w.heap.size S):=hA
    have HB:Hid (Sb W (w.heap.size+1) 0):=hB
    have HC:Hid (Sb W (w.heap.size+1+1) (mayK nx fs S k)):=hC
    have HO:Hid (Only (fun h=>w.heap.size≤h) w W):=hO
    clear hA hB hC hO S0 S1 S2 O0 e0 e1 e2 e3 hc1
    by_cases hlt4:k < n
    · have t1:(k:Int) < (n:Int):=by omega
      have a0:=HA.out.c 0 (by decide)
      have a1:=HA.out.c 1 (by decide)
      have a2:=HA.out.c 2 (by decide)
      have a3:=HA.out.c 3 (by decide)
      by_cases hbit:S.testBit k=true
      · go_wp2_with (first | (go_at_call 79;refine (has_any S k (by omega) _).mono ?_;rintro e w1 ⟨rfl,ho1⟩;have HO1:Hid (Only (fun _=>False) W w1):=ho1;have hp1:=HP.out.only (HO.out.trans (ho1.mono (fun _ h=>h.elim))) (by omega);have b0:w1.cell? ⟨g,98+k*4,none⟩=some (.int .u64 (wd (nx k) 0:Int)):=(cell_blk hp1).trans (by rw [Nat.mul_comm];exact pC_next _ _ _ _ _ _ _ k (by omega) 0 (by decide));have b1:w1.cell? ⟨g,98+k*4+1,none⟩=some (.int .u64 (wd (nx k) 1:Int)):=(cell_blk hp1).trans (by rw [Nat.mul_comm];exact pC_next _ _ _ _ _ _ _ k (by omega) 1 (by decide));have b2:w1.cell? ⟨g,98+k*4+2,none⟩=some (.int .u64 (wd (nx k) 2:Int)):=(cell_blk hp1).trans (by rw [Nat.mul_comm];exact pC_next _ _ _ _ _ _ _ k (by omega) 2 (by decide));have b3:w1.cell? ⟨g,98+k*4+3,none⟩=some (.int .u64 (wd (nx k) 3:Int)):=(cell_blk hp1).trans (by rw [Nat.mul_comm];exact pC_next _ _ _ _ _ _ _ k (by omega) 3 (by decide));clear ho1 hp1) | (go_at_call 55;refine (add_any (w.heap.size+1+1) 0 (mayK nx fs S k) (nx k) _ 95 _ (HC.out.only HO1.out (fun h=>h)) (fun j hj=>by rw [Nat.zero_add];exact sC_at _ j hj)).mono ?_;rintro e w2 ⟨rfl,hp2,ho2⟩))
        go_roundg (n - (k+1))
        case measure=>omega
        case rel =>
          refine ⟨k+1,_,rfl,rfl,by omega,by go_num,(HA.out.only HO1.out (fun h=>h)).only ho2 (by omega),(HB.out.only HO1.out (fun h=>h)).only ho2 (by omega),?_,(HO.out.trans (HO1.out.mono (fun _ h=>h.elim))).trans (ho2.mono (fun _ h=>by omega))⟩
          rw [mayK_succ,if_pos hbit]
          rw [inC_all] at hp2
          exact hp2
      · have hbf:S.testBit k=false:=by simpa using hbit
        go_wp2_with (go_at_call 79;refine (has_any S k (by omega) _).mono ?_;rintro e w1 ⟨rfl,ho1⟩)
        go_roundg (n - (k+1))
        case measure=>omega
        case rel=>exact ⟨k+1,_,rfl,rfl,by omega,by go_num,HA.out.only ho1 (fun h=>h),HB.out.only ho1 (fun h=>h),by rw [mayK_succ,if_neg hbit];exact HC.out.only ho1 (fun h=>h),HO.out.trans (ho1.mono (fun _ h=>h.elim))⟩
    · have t2:decide ((k:Int) < (n:Int))=false:=decide_eq_false (by omega)
      obtain rfl:k=n:=by omega
      go_wp2_with (first | refine wpList_load_row rfl 95 _ rfl (w.heap.size+1+1) rfl 95 _ (0,0) _ HC.out Tryz.underlying95 rfl sz73 ?_ | (refine wpList_store_rowAny rfl 95 _ _ rfl rfl (w.heap.size+1) (sC (mayK nx fs S k)) rfl rfl 95 _ HB.out sz73 rfl (sC_one _) ?_;intro w3 h3 o3;have H3:Hid (w3.heap[w.heap.size+1]?=some (.cells (sC (mayK nx fs S k)) 95 (0,0))):=h3;have O3:Hid (Only (·=w.heap.size+1) W w3):=o3;clear h3 o3))
      refine bodyPost_ret (v:=sV (mayK nx fs S k)) (results_s rfl _ rfl H3.out) rfl ⟨rfl,?_⟩
      exact (HO.out.trans (O3.out.mono (fun _ h=>by omega))).old (fun _ h=>Or.inl h)
def Lw (w:World) (F:Nat→Prop) (v:Value) (Ls:List Nat):Prop:=∃ a c,v=.slice a Ls.length c∧Ls.length≤c∧∀ i S,Ls[i]?=some S→∃ lb,a=some ⟨lb,0,none⟩∧F lb∧lb < w.heap.size∧∀ j,j < 4→w.cell? ⟨lb,i*4+j,none⟩=some (.int .u64 (wd S j:Int))
theorem Lw.only {w w':World} {F P:Nat→Prop} {v:Value} {Ls:List Nat} (h:Lw w F v Ls) (ho:Only P w w') (hP:∀ b,F b→¬ P b):Lw w' F v Ls:=by
  obtain ⟨a,c,h1,h2,h3⟩:=h
  refine ⟨a,c,h1,h2,fun i S hS=>?_⟩
  obtain ⟨lb,k1,k2,k3,k4⟩:=h3 i S hS
  exact ⟨lb,k1,k2,Nat.lt_of_lt_of_le k3 ho.size,fun j hj=>(World.cell?_of_block (a:=⟨lb,i*4+j,none⟩) (ho.block lb k3 (hP lb k2))).trans (k4 j hj)⟩
def outK (Ls:List Nat) (S em k:Nat):Nat:=(List.range k).foldl (fun m i=>if S &&& (Ls[i]?.getD 0)≠0 then m ||| 2 ^ i else m) em
theorem outK_succ (Ls:List Nat) (S em k:Nat):outK Ls S em (k+1)=if S &&& (Ls[k]?.getD 0)≠0 then outK Ls S em k ||| 2 ^ k else outK Ls S em k:=by
  unfold outK
  rw [List.range_succ,List.foldl_append]
  rfl
theorem outK_lt (Ls:List Nat) (S em:Nat) (hem:em < 2 ^ 24):∀ k,k≤24→outK Ls S em k < 2 ^ 24
  | 0,_=>hem
  | k+1,h=>by
    rw [outK_succ]
    have ih:=outK_lt Ls S em hem k (by omega)
    split
    · exact Nat.or_lt_two_pow ih (Nat.pow_lt_pow_right (by decide) (by omega))
    · exact ih
theorem or_shl {e k:Nat} (he:e < 2 ^ 24) (hk:k < 24):bits .or .u32 (e:Int) (IntKind.u32.wrap (2 ^ k))=((e ||| 2 ^ k:Nat):Int):=by
  have h:(2:Nat) ^ k < 2 ^ 24:=Nat.pow_lt_pow_right (by decide) hk
  have e1:IntKind.u32.wrap (2 ^ k)=((2 ^ k:Nat):Int):=by
    rw [IntKind.wrap_u32]
    have:((2:Int) ^ k)=((2 ^ k:Nat):Int):=by push_cast;rfl
    rw [this]
    generalize 2 ^ k=m at h
    omega
  rw [e1]
  exact u32_or_nat _ _ (Nat.lt_trans he (by decide)) (Nat.lt_trans h (by decide))
set_option maxRecDepth 100000 in
set_option maxHeartbeats 4000000 in
theorem out_any (F:Nat→Prop) (g cl n:Nat) (b nx:Nat→Nat) (fs:Nat) (vL:Value) (em S:Nat) (Ls:List Nat) (w:World) (hP:Plb w g cl n b nx fs vL em) (hL:Lw w F vL Ls) (hl:Ls.length≤24) (hem:em < 2 ^ 24) (hS:S < 2 ^ 256) (hLs:∀ x∈Ls,x < 2 ^ 256) :
    Calls Tryz.prog 58 #[.pointer (some ⟨g,0,none⟩),sV S] w fun e w'=>e=.returned (.int .u32 (outK Ls S em Ls.length:Int))∧Only (fun _=>False) w w':=by
  have hlt:=hP.lt
  have hlt1:g < w.heap.size+1:=by omega
  obtain ⟨a,c,rfl,hac,hcells⟩:=hL
  have e5:=hP.c902
  have e6:=hP.c903
  have HC:Hid (∀ i S,Ls[i]?=some S→∃ lb,a=some ⟨lb,0,none⟩∧F lb∧lb < w.heap.size∧∀ j,j < 4→w.cell? ⟨lb,i*4+j,none⟩=some (.int .u64 (wd S j:Int))):=hcells
  have HS:Hid (S < 2 ^ 256):=hS
  have HLs:Hid (∀ x∈Ls,x < 2 ^ 256):=hLs
  have HM:Hid (em < 2 ^ 24):=hem
  clear hP hcells hS hLs hem
  obtain ⟨n1,hn1⟩:∃ n1,n1=Ls.length:=⟨_,rfl⟩
  have HN:Hid (n1=Ls.length):=hn1
  rw [← hn1] at hl hac e5 ⊢
  clear hn1
  have S0:Hid (Sb (w.alloc (.cells (sC S) 95)) w.heap.size S):=Sb.new w S
  have O0:Hid (Only (fun h=>w.heap.size≤h) w (w.alloc (.cells (sC S) 95))):=(Only.refl _ _).alloc _
  unfold sV
  unfold sC at S0 O0 ⊢
  go_enter Tryz.func58,Tryz.ntmps58
  go_wp2_with fail
  go_loopg [5,17] n1 (fun gh v u wr=>∃ (k:Nat) (W:World),W=wr∧gh=n1 - k∧k≤n1∧v=.int .u32 (outK Ls S em k:Int)∧u=.int .i64 (k:Int)∧Sb W w.heap.size S∧Only (fun h=>w.heap.size≤h) w W)
  case atStart=>exact ⟨0,_,rfl,rfl,Nat.zero_le _,rfl,rfl,S0.out,O0.out⟩
  case round =>
    obtain ⟨k,W,hW,rfl,hk,rfl,rfl,hA,hO⟩:=hrel
    subst hW
    have HA:Hid (Sb W w.heap.size S):=hA
    have HO:Hid (Only (fun h=>w.heap.size≤h) w W):=hO
    have hwl:w.heap.size < W.heap.size:=hA.lt
    clear hA hO S0 O0 e5 e6
    by_cases hlt4:k < n1
    · have t1:(k:Int) < (n1:Int):=by omega
      obtain ⟨T,hT⟩:∃ T,Ls[k]?=some T:=⟨_,List.getElem?_eq_getElem (by rw [← HN.out];exact hlt4)⟩
      obtain ⟨lb,rfl,_,hlb,hc4⟩:=HC.out k T hT
      have HT:Hid (T < 2 ^ 256):=HLs.out T (List.mem_of_getElem? hT)
      have hkp:∀ j,j < 4→W.cell? ⟨lb,k*4+j,none⟩=some (.int .u64 (wd T j:Int)):=fun j hj=>(World.cell?_of_block (a:=⟨lb,k*4+j,none⟩) (HO.out.block lb hlb (by omega))).trans (hc4 j hj)
      have b0:W.cell? ⟨lb,k*4,none⟩=some (.int .u64 (wd T 0:Int)):=hkp 0 (by decide)
      have b1:W.cell? ⟨lb,k*4+1,none⟩=some (.int .u64 (wd T 1:Int)):=hkp 1 (by decide)
      have b2:W.cell? ⟨lb,k*4+2,none⟩=some (.int .u64 (wd T 2:Int)):=hkp 2 (by decide)
      have b3:W.cell? ⟨lb,k*4+3,none⟩=some (.int .u64 (wd T 3:Int)):=hkp 3 (by decide)
      have a0:=HA.out.c 0 (by decide)
      have a1:=HA.out.c 1 (by decide)
      have a2:=HA.out.c 2 (by decide)
      have a3:=HA.out.c 3 (by decide)
      have hsu:=outK_succ Ls S em k
      rw [hT,Option.getD_some] at hsu
      have HSU:Hid (outK Ls S em (k+1)=if S &&& T≠0 then outK Ls S em k ||| 2 ^ k else outK Ls S em k):=hsu
      have hor:=or_shl (outK_lt Ls S em HM.out k (by omega)) (show k < 24 by omega)
      have hST:S &&& T < 2 ^ 256:=Nat.lt_of_le_of_lt Nat.and_le_left HS.out
      clear hkp hc4 hT hsu
      by_cases hz:S &&& T=0
      · have hq:∀ w,(Op.equalIn 10000 95 (.agg #[.int .u64 (wd (S &&& T) 0:Int),.int .u64 (wd (S &&& T) 1:Int),.int .u64 (wd (S &&& T) 2:Int),.int .u64 (wd (S &&& T) 3:Int)]) (.agg #[.int .u64 0,.int .u64 0,.int .u64 0,.int .u64 0])).run Tryz.prog w=.ok true w:=fun w=>by rw [eqz hST,decide_eq_true hz]
        have HZ:Hid (S &&& T=0):=hz
        clear hz hST
        go_wp2_with (go_at_call 57;refine (both_any S T _).mono ?_;rintro e w1 ⟨rfl,ho1⟩;unfold sV sC)
        go_roundg (n1 - (k+1))
        case measure=>omega
        case rel=>exact ⟨k+1,_,rfl,rfl,by omega,by rw [HSU.out,if_neg (fun h=>h HZ.out)],by go_num,(HA.out.alloc _).only ho1 (fun h=>h),(HO.out.alloc _).trans (ho1.mono (fun _ h=>h.elim))⟩
      · have hq:∀ w,(Op.equalIn 10000 95 (.agg #[.int .u64 (wd (S &&& T) 0:Int),.int .u64 (wd (S &&& T) 1:Int),.int .u64 (wd (S &&& T) 2:Int),.int .u64 (wd (S &&& T) 3:Int)]) (.agg #[.int .u64 0,.int .u64 0,.int .u64 0,.int .u64 0])).run Tryz.prog w=.ok false w:=fun w=>by rw [eqz hST,decide_eq_false hz]
        have HZ:Hid (¬ S &&& T=0):=hz
        clear hz hST
        go_wp2_with (go_at_call 57;refine (both_any S T _).mono ?_;rintro e w1 ⟨rfl,ho1⟩;unfold sV sC)
        go_roundg (n1 - (k+1))
        case measure=>omega
        case rel=>exact ⟨k+1,_,rfl,rfl,by omega,by rw [HSU.out,if_pos HZ.out,← hor,IntKind.wrap_u32],by go_num,(HA.out.alloc _).only ho1 (fun h=>h),(HO.out.alloc _).trans (ho1.mono (fun _ h=>h.elim))⟩
    · have t2:decide ((k:Int) < (n1:Int))=false:=decide_eq_false (by omega)
      obtain rfl:k=n1:=by omega
      go_wp2_with fail
      go_ret
      exact ⟨rfl,HO.out.old (fun _ h=>Or.inl h)⟩
end Go.Proofs.YtchaoonefiamdaaGreatDoor
namespace Go.Proofs.YtchaoonefiamdaaGreatDoor
open Go.RowKit Go.Maps
set_option linter.unusedVariables false
set_option linter.unusedSimpArgs false
def placeP (rb:Nat) (S:ByteArray) (x:Rd) (w:World) (F:Rl.R (Nat × List Rl.Tk)) (e:Ending) (w':World):Prop :=
  match F with
  | .error f=>e=.panicked (thr f.1 f.2)∧Only (·=rb) w w'
  | .ok (k,ts)=>e=.returned (.int .i64 (k:Int))∧In w' rb S x ts∧Only (·=rb) w w'
theorem own_drewN {w:World} {base e size n:Nat} {v:Value} {xs:List Value} (h:w.ownsRow base e size v n xs) (k:Nat):(w.drewN k).ownsRow base e size v n xs:=h
set_option maxRecDepth 100000 in
set_option maxHeartbeats 2000000 in
theorem place_any (C:List Rl.Str) (rb:Nat) (S:ByteArray) (x:Rd) (ts:List Rl.Tk) (w:World) (h:In w rb S x ts) (hS:S.size≤4096) (hC:w.ownsRow (rb+1) 9 1 x.vC C.length (strs C)) (hC24:C.length≤24) :
    Calls Tryz.prog 64 #[.pointer (some ⟨rb,0,none⟩)] w (placeP rb S x w (Rl.placeOf C ts)):=by
  have hn:=name_any rb S x ts w h hS
  have hlt:=h.lt
  obtain ⟨i,_,hs,hi⟩:=h
  unfold Rl.placeOf
  cases hnm:Rl.name ts with
  | error f =>
    rw [hnm] at hn
    have HN:Hid (Calls Tryz.prog 81 #[.pointer (some ⟨rb,0,none⟩)] w (nameP rb S x w (.error f))):=hn
    clear hnm hn hs
    simp only
    go_enter Tryz.func64,Tryz.ntmps64
    go_wp2_with (go_at_call 81;refine HN.out.mono ?_;rintro e w1 ⟨rfl,ho1⟩)
    exact ⟨rfl,rfl,ho1⟩
  | ok r =>
    obtain ⟨t,ts1⟩:=r
    obtain ⟨_,htl⟩:=name_len hs hnm
    rw [← Lib.size_eq] at htl
    rw [hnm] at hn
    have HN:Hid (Calls Tryz.prog 81 #[.pointer (some ⟨rb,0,none⟩)] w (nameP rb S x w (.ok (t,ts1)))):=hn
    have HCo:Hid (w.ownsRow (rb+1) 9 1 x.vC C.length (strs C)):=hC
    simp only
    clear hnm hn hs hC
    obtain ⟨z,hz⟩:∃ z,z=idxI C t.text:=⟨_,rfl⟩
    have Hz:Hid (z=idxI C t.text):=hz
    cases hp:Rl.place C t.text with
    | none =>
      have hz1:z=-1:=by rw [hz];unfold idxI;rw [hp]
      have hzn:z < 0:=by omega
      clear hz hz1 hp
      simp only
      go_enter Tryz.func64,Tryz.ntmps64
      go_wp2_with (go_at_call 81;refine HN.out.mono ?_;rintro e w1 ⟨rfl,hi1,ho1⟩;have HI1:Hid (In w1 rb S x ts1):=hi1;obtain ⟨i1,hR1,_,_⟩:=hi1;have d2:=hR1.c2;have hl1:=hR1.lt;clear hR1;have hix:∀ n,Calls Tryz.prog 84 #[x.vC,.string (bs t.text)] ((w1.alloc (.cells #[.string (bs t.text),.int .i64 (t.at':Int)] 79)).drewN n) (fun e w'=>e=.returned (.int .i64 z)∧w'=((w1.alloc (.cells #[.string (bs t.text),.int .i64 (t.at':Int)] 79)).drewN n)):=(fun n=>by rw [Hz.out];exact index_any C t.text (rb+1) x.vC _ (own_drewN ((own_only HCo.out ho1 (fun g hg=>by omega)).alloc _) n) hC24);have Hix:Hid (∀ n,Calls Tryz.prog 84 #[x.vC,.string (bs t.text)] ((w1.alloc (.cells #[.string (bs t.text),.int .i64 (t.at':Int)] 79)).drewN n) (fun e w'=>e=.returned (.int .i64 z)∧w'=((w1.alloc (.cells #[.string (bs t.text),.int .i64 (t.at':Int)] 79)).drewN n))):=hix;clear hix)
      go_quiet ((go_at_call 84;exact Calls.quiet_of_same (Hix.out _)))
      go_wp2_with (go_at_call 31;refine (throw_any 22 t.at' _).mono ?_;rintro e w3 ⟨rfl,rfl⟩)
      exact ⟨rfl,rfl,(ho1.alloc _).drewN _⟩
    | some k =>
      have hz1:z=(k:Int):=by rw [hz];unfold idxI;rw [hp]
      have hzn:decide (z < 0)=false:=decide_eq_false (by omega)
      have Hz1:Hid (z=(k:Int)):=hz1
      clear hz hz1 hp
      simp only
      go_enter Tryz.func64,Tryz.ntmps64
      go_wp2_with (go_at_call 81;refine HN.out.mono ?_;rintro e w1 ⟨rfl,hi1,ho1⟩;have HI1:Hid (In w1 rb S x ts1):=hi1;obtain ⟨i1,hR1,_,_⟩:=hi1;have d2:=hR1.c2;have hl1:=hR1.lt;clear hR1;have hix:∀ n,Calls Tryz.prog 84 #[x.vC,.string (bs t.text)] ((w1.alloc (.cells #[.string (bs t.text),.int .i64 (t.at':Int)] 79)).drewN n) (fun e w'=>e=.returned (.int .i64 z)∧w'=((w1.alloc (.cells #[.string (bs t.text),.int .i64 (t.at':Int)] 79)).drewN n)):=(fun n=>by rw [Hz.out];exact index_any C t.text (rb+1) x.vC _ (own_drewN ((own_only HCo.out ho1 (fun g hg=>by omega)).alloc _) n) hC24);have Hix:Hid (∀ n,Calls Tryz.prog 84 #[x.vC,.string (bs t.text)] ((w1.alloc (.cells #[.string (bs t.text),.int .i64 (t.at':Int)] 79)).drewN n) (fun e w'=>e=.returned (.int .i64 z)∧w'=((w1.alloc (.cells #[.string (bs t.text),.int .i64 (t.at':Int)] 79)).drewN n))):=hix;clear hix)
      go_quiet ((go_at_call 84;exact Calls.quiet_of_same (Hix.out _)))
      go_wp2_with fail
      go_ret
      exact ⟨by rw [← Hz1.out];rfl,(HI1.out.alloc _).drewN _,(ho1.alloc _).drewN _⟩
theorem place_lt {C:List Rl.Str} {ts ts':List Rl.Tk} {k:Nat} (h:Rl.placeOf C ts=.ok (k,ts')):k < C.length:=by
  unfold Rl.placeOf at h
  split at h
  · cases h
  · split at h
    · cases h
    · rename_i hp
      cases h
      unfold Rl.place at hp
      split at hp
      · rename_i hm
        cases hp
        exact List.idxOf_lt_length_iff.2 hm
      · cases hp
theorem Rdr.set3 {w:World} {rb:Nat} {S:ByteArray} {i:Int} {x:Rd} (h:Rdr w rb S i x) (v:Int):Rdr (w.setCell ⟨rb,3,none⟩ (.int .u32 v)) rb S i { x with j:=v }:=heap_setCell_at h _
theorem Rdr.set4 {w:World} {rb:Nat} {S:ByteArray} {i:Int} {x:Rd} (h:Rdr w rb S i x) (v:Int):Rdr (w.setCell ⟨rb,4,none⟩ (.int .u32 v)) rb S i { x with a:=v }:=heap_setCell_at h _
set_option maxRecDepth 100000 in
set_option maxHeartbeats 4000000 in
theorem join_any (rb:Nat) (S:ByteArray) (x:Rd) (s:Rl.St) (p:Value) (ts:List Rl.Tk) (w:World) (h:In w rb S x ts) (hS:S.size≤4096) (hT:Stt w rb x s) (tx:Rl.Str) (ti:Int) (hp:p=.agg #[.string (bs tx),.int .i64 ti]) :
    Calls Tryz.prog 42 #[.pointer (some ⟨rb,0,none⟩),p] w (lineP rb S x.mb w (Rl.join' ts s)):=by
  subst hp
  have hlt:=h.lt
  have HI:Hid (In w rb S x ts):=h
  have HS:Hid (Stt w rb x s):=hT
  have hmb:x.mb≠rb:=by have:=hT.mb;omega
  obtain ⟨i,hR,_,_⟩:=h
  have c3:=hR.c3
  have f3:=hR.fz 3
  obtain ⟨F,hF⟩:∃ F,F=Rl.join' ts s:=⟨_,rfl⟩
  have HF:Hid (F=Rl.join' ts s):=hF
  rw [← hF]
  clear hR hT hF
  cases hn1:Rl.names s.env ts 0 with
  | error f =>
    have T1:Hid (Rl.names s.env ts 0=.error f):=hn1
    have HE:Hid (F=.error f):=(by rw [HF.out];unfold Rl.join';simp only [hn1]:F=.error f)
    clear hn1
    go_enter Tryz.func42,Tryz.ntmps42
    go_wp2_with fail
    have c3':(w.alloc (.cells #[.string (bs tx),.int .i64 ti] 79)).drew.cell? ⟨rb,3,none⟩=some (.int .u32 x.j):=(World.cell?_of_block (a:=⟨rb,3,none⟩) (Below.heap_alloc w _ _ hlt)).trans c3
    refine wp_region_held_drew (S:=fun w'=>w'.cell? ⟨rb,3,none⟩=some (.int .u32 x.j)) (by kernel_rfl) c3' (fun hHeld=>?_)
    refine wpAnyH_take (i:=0) (v:=Value.pointer (some ⟨rb,0,none⟩)) rfl (by kernel_rfl) (by kernel_rfl) (by kernel_rfl) (fun _ _ _ h=>h) (Or.inl ⟨by rfl,fun w hSw=>by first | (go_simp;done) | go_simp⟩) (by assumption) ?_
    simp only [Act.put,List.setIfInBounds_toArray,List.set_cons_zero,List.set_cons_succ]
    refine wpAnyH_take (i:=1) (v:=Value.pointer (some ⟨rb,0,none⟩)) rfl (by kernel_rfl) (by kernel_rfl) (by kernel_rfl) (fun _ _ _ h=>h) (Or.inl ⟨by rfl,fun w hSw=>by first | (go_simp;done) | go_simp⟩) (by assumption) ?_
    simp only [Act.put,List.setIfInBounds_toArray,List.set_cons_zero,List.set_cons_succ]
    refine wpAnyH_take (i:=2) (v:=Value.pointer (some ⟨rb,2,none⟩)) rfl (by kernel_rfl) (by kernel_rfl) (by kernel_rfl) (fun _ _ _ h=>h) (Or.inl ⟨by rfl,fun w hSw=>by first | (go_simp;done) | go_simp⟩) (by assumption) ?_
    simp only [Act.put,List.setIfInBounds_toArray,List.set_cons_zero,List.set_cons_succ]
    refine wpAnyH_take (i:=3) (v:=Value.pointer (some ⟨rb,3,none⟩)) rfl (by kernel_rfl) (by kernel_rfl) (by kernel_rfl) (fun _ _ _ h=>h) (Or.inl ⟨by rfl,fun w hSw=>by first | (go_simp;done) | go_simp⟩) (by assumption) ?_
    simp only [Act.put,List.setIfInBounds_toArray,List.set_cons_zero,List.set_cons_succ]
    refine wpAnyH_take (i:=4) (v:=Value.int .u32 x.j) rfl (by kernel_rfl) (by kernel_rfl) (by kernel_rfl) (fun _ _ _ h=>h) (Or.inl ⟨by rfl,fun w hSw=>by first | (go_simp;done) | go_simp⟩) (by assumption) ?_
    simp only [Act.put,List.setIfInBounds_toArray,List.set_cons_zero,List.set_cons_succ]
    refine wpAnyH_take (i:=5) (v:=Value.pointer (some ⟨rb,0,none⟩)) rfl (by kernel_rfl) (by kernel_rfl) (by kernel_rfl) (fun _ _ _ h=>h) (Or.inl ⟨by rfl,fun w hSw=>by first | (go_simp;done) | go_simp⟩) (by assumption) ?_
    simp only [Act.put,List.setIfInBounds_toArray,List.set_cons_zero,List.set_cons_succ]
    refine wpAnyH_ready (rs:=[6]) (by kernel_rfl) (by simp) ?_
    refine AllReadyH.cons rfl (fun K hK=>?_) AllReadyH.nil
    rw [if_pos (by rfl)]
    go_simp
    have hc:=names_any s.env rb S x ts _ ((HI.out.alloc (.cells #[.string (bs tx),.int .i64 ti] 79)).drew) hS ((HS.out.mp.alloc _).drewN 1) hmb
    rw [T1.out] at hc
    refine hc.mono ?_
    clear hc
    rintro e w1 ⟨rfl,ho1⟩
    refine ⟨rfl,?_⟩
    rw [HE.out]
    exact ⟨rfl,(((Only.refl (·=rb) w).alloc _).drew.trans ho1).fr HI.out.cl _⟩
  | ok r =>
    obtain ⟨b,ts1⟩:=r
    have T1:Hid (Rl.names s.env ts 0=.ok (b,ts1)):=hn1
    clear hn1
    have HX1:Hid (∀ (W:World),In W rb S x ts1→Stt W rb x s→In (W.setCell ⟨rb,3,none⟩ (.int .u32 (Rl.bor x.j b))) rb S { x with j:=Rl.bor x.j b } ts1∧Stt (W.setCell ⟨rb,3,none⟩ (.int .u32 (Rl.bor x.j b))) rb { x with j:=Rl.bor x.j b } { s with join:=Rl.bor s.join b }):=(fun W hi ht=>by
      have ht':=ht.only ((Only.refl (·=rb) W).setCell (p:=⟨rb,3,none⟩) rfl (.int .u32 (Rl.bor x.j b)))
      obtain ⟨i,h1,h2⟩:=hi
      exact ⟨⟨i,h1.set3 _,h2⟩,⟨ht'.cls,ht'.trt,ht'.lst,ht'.mp,by rw [ht.jn],ht'.af,ht'.pl,ht'.op,ht'.mb,ht'.c24,ht'.l24,ht'.p200⟩⟩:∀ (W:World),In W rb S x ts1→Stt W rb x s→In (W.setCell ⟨rb,3,none⟩ (.int .u32 (Rl.bor x.j b))) rb S { x with j:=Rl.bor x.j b } ts1∧Stt (W.setCell ⟨rb,3,none⟩ (.int .u32 (Rl.bor x.j b))) rb { x with j:=Rl.bor x.j b } { s with join:=Rl.bor s.join b })
    go_enter Tryz.func42,Tryz.ntmps42
    go_wp2_with fail
    go_cut [] from 4 to 14 (fun wr=>∃ W,W=wr∧In W rb S { x with j:=Rl.bor x.j b } ts1∧Stt W rb { x with j:=Rl.bor x.j b } { s with join:=Rl.bor s.join b }∧Only (·=rb) w W)
    case first =>
      go_region_with (first | (go_at_call 63;have hc:=names_any s.env rb S x ts _ ((HI.out.alloc (.cells #[.string (bs tx),.int .i64 ti] 79)).drew) hS ((HS.out.mp.alloc _).drewN 1) hmb;rw [T1.out] at hc;refine hc.mono ?_;clear hc;rintro e w1 ⟨rfl,hI1,ho1⟩;have HI1:Hid (In w1 rb S x ts1):=hI1;obtain ⟨i1,hR1,_,_⟩:=hI1;have d3:=hR1.c3;have g3:=hR1.fz 3;clear hR1;have HO1:Hid (Only (·=rb) w w1):=(((Only.refl (·=rb) w).alloc _).drew.trans ho1);clear ho1))
      all_goals
        go_wp2_with fail
        go_meet
        case rel =>
          obtain ⟨h1,h2⟩:=HX1.out w1 HI1.out (HS.out.only HO1.out)
          exact ⟨_,rfl,h1,h2,HO1.out.setCell (p:=⟨rb,3,none⟩) rfl _⟩
    case rest =>
      obtain ⟨W,hW,hI2,hS2,hO2⟩:=hcut
      obtain ⟨y,hy⟩:∃ y:Rd,y={ x with j:=Rl.bor x.j b }:=⟨_,rfl⟩
      obtain ⟨s1,hs1⟩:∃ s1:Rl.St,s1={ s with join:=Rl.bor s.join b }:=⟨_,rfl⟩
      have HY:Hid (y.mb=x.mb∧y.a=x.a):=(by rw [hy];exact ⟨rfl,rfl⟩:y.mb=x.mb∧y.a=x.a)
      have HS1:Hid (s1={ s with join:=Rl.bor s.join b }):=hs1
      have HI2:Hid (In W rb S y ts1):=by rw [hy];exact hI2
      have HS2:Hid (Stt W rb y s1):=by rw [hy,hs1];exact hS2
      have HO2:Hid (Only (·=rb) w W):=hO2
      rw [← hW]
      clear hy hs1 hI2 hS2 hO2 hW HX1 c3 f3
      have hmy:y.mb≠rb:=by rw [HY.out.1];exact hmb
      have henv:Hid (s1.env=s.env):=(by rw [HS1.out]:s1.env=s.env)
      cases hw:Rl.want 47 ts1 with
      | error f =>
        have T2:Hid (Rl.want 47 ts1=.error f):=hw
        have HE:Hid (F=.error f):=(by rw [HF.out];unfold Rl.join';simp only [T1.out,hw]:F=.error f)
        clear hw
        go_wp2_with (go_at_call 33;have hc:=want_any 47 rb S y ts1 W HI2.out hS;rw [T2.out] at hc;refine hc.mono ?_;clear hc;rintro e w2 ⟨rfl,ho2⟩)
        refine ⟨rfl,?_⟩
        rw [HE.out]
        exact ⟨rfl,(HO2.out.trans ho2).fr HI.out.cl _⟩
      | ok ts2 =>
        have T2:Hid (Rl.want 47 ts1=.ok ts2):=hw
        clear hw
        cases hn2:Rl.names s.env ts2 0 with
        | error f =>
          have T3:Hid (Rl.names s.env ts2 0=.error f):=hn2
          have HE:Hid (F=.error f):=(by rw [HF.out];unfold Rl.join';simp only [T1.out,T2.out,hn2]:F=.error f)
          clear hn2
          go_wp2_with (go_at_call 33;have hc:=want_any 47 rb S y ts1 W HI2.out hS;rw [T2.out] at hc;refine hc.mono ?_;clear hc;rintro e w2 ⟨rfl,hI3,ho2⟩;have HI3:Hid (In w2 rb S y ts2):=hI3;obtain ⟨i3,hR3,_,_⟩:=hI3;have d4:=hR3.c4;have hl2:=hR3.lt;clear hR3;have HO3:Hid (Only (·=rb) w w2):=HO2.out.trans ho2;have HS3:Hid (Stt w2 rb y s1):=HS2.out.only ho2)
          have d4':w2.drew.cell? ⟨rb,4,none⟩=some (.int .u32 y.a):=d4
          refine wp_region_held_drew (S:=fun w'=>w'.cell? ⟨rb,4,none⟩=some (.int .u32 y.a)) (by kernel_rfl) d4' (fun hHeld=>?_)
          refine wpAnyH_take (i:=0) (v:=Value.pointer (some ⟨rb,0,none⟩)) rfl (by kernel_rfl) (by kernel_rfl) (by kernel_rfl) (fun _ _ _ h=>h) (Or.inl ⟨by rfl,fun w hSw=>by first | (go_simp;done) | go_simp⟩) (by assumption) ?_
          simp only [Act.put,List.setIfInBounds_toArray,List.set_cons_zero,List.set_cons_succ]
          refine wpAnyH_take (i:=1) (v:=Value.pointer (some ⟨rb,0,none⟩)) rfl (by kernel_rfl) (by kernel_rfl) (by kernel_rfl) (fun _ _ _ h=>h) (Or.inl ⟨by rfl,fun w hSw=>by first | (go_simp;done) | go_simp⟩) (by assumption) ?_
          simp only [Act.put,List.setIfInBounds_toArray,List.set_cons_zero,List.set_cons_succ]
          refine wpAnyH_take (i:=2) (v:=Value.pointer (some ⟨rb,2,none⟩)) rfl (by kernel_rfl) (by kernel_rfl) (by kernel_rfl) (fun _ _ _ h=>h) (Or.inl ⟨by rfl,fun w hSw=>by first | (go_simp;done) | go_simp⟩) (by assumption) ?_
          simp only [Act.put,List.setIfInBounds_toArray,List.set_cons_zero,List.set_cons_succ]
          refine wpAnyH_take (i:=3) (v:=Value.pointer (some ⟨rb,4,none⟩)) rfl (by kernel_rfl) (by kernel_rfl) (by kernel_rfl) (fun _ _ _ h=>h) (Or.inl ⟨by rfl,fun w hSw=>by first | (go_simp;done) | go_simp⟩) (by assumption) ?_
          simp only [Act.put,List.setIfInBounds_toArray,List.set_cons_zero,List.set_cons_succ]
          refine wpAnyH_take (i:=4) (v:=Value.int .u32 y.a) rfl (by kernel_rfl) (by kernel_rfl) (by kernel_rfl) (fun _ _ _ h=>h) (Or.inl ⟨by rfl,fun w hSw=>by first | (go_simp;done) | go_simp⟩) (by assumption) ?_
          simp only [Act.put,List.setIfInBounds_toArray,List.set_cons_zero,List.set_cons_succ]
          refine wpAnyH_take (i:=5) (v:=Value.pointer (some ⟨rb,0,none⟩)) rfl (by kernel_rfl) (by kernel_rfl) (by kernel_rfl) (fun _ _ _ h=>h) (Or.inl ⟨by rfl,fun w hSw=>by first | (go_simp;done) | go_simp⟩) (by assumption) ?_
          simp only [Act.put,List.setIfInBounds_toArray,List.set_cons_zero,List.set_cons_succ]
          refine wpAnyH_ready (rs:=[6]) (by kernel_rfl) (by simp) ?_
          refine AllReadyH.cons rfl (fun K hK=>?_) AllReadyH.nil
          rw [if_pos (by rfl)]
          go_simp
          have hc:=names_any s.env rb S y ts2 _ HI3.out.drew hS (by rw [← henv.out];exact HS3.out.mp.drewN 1) hmy
          rw [T3.out] at hc
          refine hc.mono ?_
          clear hc
          rintro e w1 ⟨rfl,ho1⟩
          refine ⟨rfl,?_⟩
          rw [HE.out]
          exact ⟨rfl,(HO3.out.drew.trans ho1).fr HI.out.cl _⟩
        | ok r =>
          obtain ⟨c,ts3⟩:=r
          have T3:Hid (Rl.names s.env ts2 0=.ok (c,ts3)):=hn2
          have HE:Hid (F=.ok (ts3,{ s with join:=Rl.bor s.join b,after:=Rl.bor s.after c })):=(by rw [HF.out];unfold Rl.join';simp only [T1.out,T2.out,hn2]:F=.ok (ts3,{ s with join:=Rl.bor s.join b,after:=Rl.bor s.after c }))
          clear hn2
          go_wp2_with (go_at_call 33;have hc:=want_any 47 rb S y ts1 W HI2.out hS;rw [T2.out] at hc;refine hc.mono ?_;clear hc;rintro e w2 ⟨rfl,hI3,ho2⟩;have HI3:Hid (In w2 rb S y ts2):=hI3;obtain ⟨i3,hR3,_,_⟩:=hI3;have d4:=hR3.c4;have hl2:=hR3.lt;clear hR3;have HO3:Hid (Only (·=rb) w w2):=HO2.out.trans ho2;have HS3:Hid (Stt w2 rb y s1):=HS2.out.only ho2;have HM3:Hid (Mp w2 y.mb s.env):=(by have:=HS3.out.mp;rw [henv.out] at this;exact this))
          go_region_with (first | (go_at_call 63;have hc:=names_any s.env rb S y ts2 _ HI3.out.drew hS (HM3.out.drewN 1) hmy;rw [T3.out] at hc;refine hc.mono ?_;clear hc;rintro e w4 ⟨rfl,hI4,ho4⟩;have HI4:Hid (In w4 rb S y ts3):=hI4;obtain ⟨i4,hR4,_,_⟩:=hI4;have e4:=hR4.c4;have g4:=hR4.fz 4;clear hR4;have HO4:Hid (Only (·=rb) w w4):=HO3.out.drew.trans ho4;have HS4:Hid (Stt w4 rb y s1):=HS3.out.only ((Only.refl (·=rb) w2).drew.trans ho4);clear ho4))
          all_goals
            go_wp2_with fail
            go_end0
            rw [HE.out]
            have hst:=HS4.out.only ((Only.refl (·=rb) w4).setCell (p:=⟨rb,4,none⟩) rfl (.int .u32 (Rl.bor y.a c)))
            obtain ⟨i5,h5,h6⟩:=HI4.out
            refine ⟨rfl,{ y with a:=Rl.bor y.a c },HY.out.1,⟨i5,h5.set4 _,h6⟩,?_,(HO4.out.setCell (p:=⟨rb,4,none⟩) rfl _).fr HI.out.cl _⟩
            have haf:=HS4.out.af
            have hs1':=HS1.out
            exact ⟨by rw [hs1'] at hst;exact hst.cls,by rw [hs1'] at hst;exact hst.trt,by rw [hs1'] at hst;exact hst.lst,by rw [hs1'] at hst;exact hst.mp,by rw [hs1'] at hst;exact hst.jn,by rw [hs1'] at haf;show Rl.bor y.a c=Rl.bor s.after c;rw [haf],by rw [hs1'] at hst;exact hst.pl,hst.op,hst.mb,by rw [hs1'] at hst;exact hst.c24,by rw [hs1'] at hst;exact hst.l24,by rw [hs1'] at hst;exact hst.p200⟩
end Go.Proofs.YtchaoonefiamdaaGreatDoor
