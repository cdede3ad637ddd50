/- Sg22 Sv -/
import Derived.Test.YtchaoonefiamdaaGreatDoorZ47
import Derived.Test.YtchaoonefiamdaaGreatDoorRows
import Derived.Lib.LaidTab
import Derived.ProofKit
import Derived.OpenShut
import Derived.ChangeOld
import Derived.Below
import Derived.Deep.DeepHandedRow
import Derived.Deep.Grids
import Derived.ChangeMaps5
namespace Go.Proofs.YtchaoonefiamdaaGreatDoor
open Go.RowKit Go.Maps
set_option linter.unusedVariables false
set_option linter.unusedSimpArgs false
def Bw (w:World) (a:Option Addr) (n:Nat) (L:List Bool):Prop:=L.length=n∧∃ b off,(0 < n→a=some ⟨b,off,none⟩∧b < w.heap.size)∧∀ (j:Nat) (x:Bool),L[j]?=some x→w.cell? ⟨b,off+j,none⟩=some (.bool x)
theorem Bw.at {w:World} {a:Option Addr} {n:Nat} {L:List Bool} (h:Bw w a n L) (h0:0 < n):∃ b off,a=some ⟨b,off,none⟩∧b < w.heap.size∧∀ w',Only (fun _=>False) w w'→∀ (j:Nat) (x:Bool),L[j]?=some x→w'.cell? ⟨b,off+j,none⟩=some (.bool x):=by
  obtain ⟨_,b,off,h1,h2⟩:=h
  exact ⟨b,off,(h1 h0).1,(h1 h0).2,fun w' ho j x hj=>(World.cell?_of_block (a:=⟨b,off+j,none⟩) (ho.block b (h1 h0).2 (fun h=>h))).trans (h2 j x hj)⟩
def cOf (L:List Bool):List Int:=L.map (fun x=>if x=true then 0 else 1)
theorem run0_step {C:List Int} {i r:Nat} (hr:r < i) (hall:∀ q,q < r→C[i - 1 - q]?=some 0):(C[i - 1 - r]?=some 0→∀ q,q < r+1→C[i - 1 - q]?=some 0):=fun h q hq=>by
  by_cases e:q=r
  · subst e;exact h
  · exact hall q (by omega)
theorem run0_stop {C:List Int} {i r:Nat} (hr:r≤i) (hall:∀ q,q < r→C[i - 1 - q]?=some 0) (hs:r=i∨C[i - 1 - r]?≠some 0):run0 C i=r:=by
  have h1:r≤run0 C i:=(run0_iff C i r).2 ⟨hr,fun q hq=>by have:=hall (r - 1 - q) (by omega);rw [show i - r+q=i - 1 - (r - 1 - q) by omega];exact this⟩
  have h2:=run0_le C i
  by_cases e:run0 C i=r
  · exact e
  · exfalso
    have h3:=(run0_iff C i (r+1)).1 (by omega)
    have h4:=h3.2 0 (by omega)
    rcases hs with rfl | hs
    · omega
    · exact hs (by rw [show i - 1 - r=i - (r+1)+0 by omega];exact h4)
set_option maxRecDepth 100000 in
set_option maxHeartbeats 8000000 in
theorem segFar_any (nv:Nat) (hnv:nv < 256) (aB:Option Addr) (nB cB:Nat) (Bs:List Bool) (w:World) (hB:Bw w aB nB Bs) (hT:Tz w) :
    Calls Tryz.prog 4 #[.int .u8 (nv:Int),.slice aB nB cB] w fun e w'=>e=.returned (.bool true)∧Only (fun _=>False) w w':=by
  have HAW:Hid (Calls Tryz.prog 5 #[] w fun e w'=>e=.returned (.bool true)∧Only (fun _=>False) w w'):=awake6_any w hT
  have HB:Hid (Bw w aB nB Bs):=hB
  have HT:Hid (Tz w):=hT
  clear hB hT
  go_enter Tryz.func4,Tryz.ntmps4
  go_wp2_with fail
  refine Calls.mono HAW.out ?_
  rintro e w1 ⟨rfl,ho1⟩
  have H1:Hid (Only (fun _=>False) w w1):=ho1
  clear ho1 HAW
  by_cases hbig:200 < nB
  · have t1:(200:Int) < (nB:Int):=by omega
    go_wp2_with fail
    go_ret
    exact ⟨rfl,H1.out⟩
  · have t1:decide ((200:Int) < (nB:Int))=false:=decide_eq_false (by omega)
    have t1':¬ (200:Int) < (nB:Int):=by omega
    obtain ⟨k,hk⟩:∃ k,k=1+nv % 5:=⟨_,rfl⟩
    have hk1:1≤k:=by omega
    have hk5:k≤5:=by omega
    go_upto_region 6 with fail
    obtain ⟨nL,oL,hmk,hrd⟩:=readF hk1 hk5
    have HRD:Hid (∀ w:World,Calls Tryz.prog 6 #[.string ⟨(txF k).toArray⟩] w fun e w'=>∃ mb,e=.returned (.tuple #[.pointer (some ⟨mb,0,none⟩),.agg #[.int .i64 0,.int .i64 0]])∧Mac w' (w.heap.size+1) mb (ruF k) 2 2 nL oL [[1,2],[1,2],[1,2]] [0,2,3]∧Only (fun _=>False) w w'):=hrd
    have HMK:Hid (Au.make ((ruF k).list.map (·.left)) ((2:Nat):Int)=.ok (nL,oL)):=hmk
    have HK:Hid (k=1+nv % 5):=hk
    rw [show (1:Int)+(nv:Int) % 5=(k:Int) by omega]
    clear hrd hmk hk t1 t1'
    go_wp2_with fail
    go_loopg [6,26] k (fun gh t v wr=>∃ (j:Nat) (S:ByteArray),wr=w1∧gh=k - j∧j≤k∧S=⟨(txB j).toArray⟩∧t=.string S∧v=.int .i64 (j:Int))
    case atStart=>exact ⟨0,_,rfl,rfl,Nat.zero_le _,rfl,rfl,rfl⟩
    case round =>
      obtain ⟨j,S,rfl,rfl,hj,hS,rfl,rfl⟩:=hrel
      have HS:Hid (S=⟨(txB j).toArray⟩):=hS
      have hz:S.size≤26:=by
        rw [hS]
        have:j=0∨j=1∨j=2∨j=3∨j=4∨j=5:=by omega
        rcases this with rfl | rfl | rfl | rfl | rfl | rfl <;> decide
      clear hS
      by_cases hlt:j < k
      · have t2:(j:Int) < (k:Int):=by omega
        go_wp2_with fail
        go_roundg (k - (j+1))
        case measure=>omega
        case rel=>exact ⟨j+1,_,rfl,rfl,by omega,txB_step j S HS.out,rfl,by go_num⟩
      · have t2:decide ((j:Int) < (k:Int))=false:=decide_eq_false (by omega)
        have hjk:j=k:=by omega
        subst hjk
        go_wp2_with fail
        rw [txB_end j S HS.out]
        refine Calls.mono (HRD.out _) ?_
        rintro e w2 ⟨mb,rfl,hm,ho2⟩
        have H2:Hid (Mac w2 (wr.heap.size+1) mb (ruF j) 2 2 nL oL [[1,2],[1,2],[1,2]] [0,2,3]∧Only (fun _=>False) w w2):=⟨hm,H1.out.trans ho2⟩
        clear hm ho2 HRD HS hz
        go_upto_region 12 with fail
        obtain ⟨f1,hf1⟩:∃ x,x=w2.heap.size:=⟨_,rfl⟩
        obtain ⟨w3,hw3⟩:∃ x,x=w2.alloc (.cells #[.int .i64 0,.int .i64 0] 32):=⟨_,rfl⟩
        have H3:Hid (w3.heap[f1]?=some (.cells #[.int .i64 0,.int .i64 0] 32 (0,0))∧Only (fun _=>False) w2 w3∧Only (fun _=>False) w w3):=by rw [hw3,hf1];exact ⟨heap_alloc_new _ _,(Only.refl _ _).alloc _,H2.out.2.alloc _⟩
        rw [← hw3,← hf1]
        clear hw3 hf1
        have hq1:=H3.out.1
        have c0:w3.cell? ⟨f1,0,none⟩=some (.int .i64 0):=cell_blk hq1
        have l1:f1 < w3.heap.size:=(Array.getElem?_eq_some_iff.1 hq1).1
        clear hq1
        obtain ⟨i0,hi,hz0,hz1,hz2⟩:=info_parts info3'
        go_wp2_with fail
        clear c0 l1
        go_loopg [9,42] nB (fun gh v i wq=>∃ (q:Nat) (a:Option Addr) (cap:Nat) (W:World),W=wq∧gh=nB - q∧q≤nB∧v=.slice a q cap∧i=.int .i64 (q:Int)∧W.ownsRow w3.heap.size 3 1 (.slice a q cap) q (ints (cOf (Bs.take q)))∧Only (fun _=>False) w3 W)
        case atStart=>exact ⟨0,none,0,_,rfl,rfl,Nat.zero_le _,rfl,rfl,World.ownsRow_nil _ _ _ _,Only.refl _ _⟩
        case round =>
          obtain ⟨q,a,cap,W,hW,rfl,hq,rfl,rfl,hown,ho⟩:=hrel
          subst hW
          have HOW:Hid (W.ownsRow w3.heap.size 3 1 (.slice a q cap) q (ints (cOf (Bs.take q)))):=hown
          have HO:Hid (Only (fun _=>False) w3 W):=ho
          by_cases hlt2:q < nB
          · have t3:(q:Int) < (nB:Int):=by omega
            obtain ⟨x,hx⟩:∃ x,Bs[q]?=some x:=⟨_,List.getElem?_eq_getElem (by rw [HB.out.1];exact hlt2)⟩
            have HX:Hid (Bs[q]?=some x):=hx
            obtain ⟨bB,oB,rfl,lB0,hcB⟩:=HB.out.at (by omega)
            have p0:=hcB W (H3.out.2.2.trans ho) q x hx
            have lB:bB < W.heap.size:=Nat.lt_of_lt_of_le lB0 (H3.out.2.2.trans ho).size
            clear hown ho hx hcB
            cases x with
            | true =>
              go_wp2_with (at_builtin;refine wpList_append_own_at _ rfl _ _ 23 rfl w3.heap.size 3 i0 (.int .i64 0) 1 8 Tryz.underlying23 hi hz0 hz1 hz2 rfl (by decide) _ _ _ rfl (HOW.out.alloc (.cells #[.int .i64 0] 3)) ⟨W.heap.size,0,none⟩ 1 1 [.int .i64 0] rfl rfl (news1 _ _ _) (fun u hu=>by simp at hu;subst hu;rfl) (by unfold maxLen;omega) (by omega) (by have:=HO.out.size;simp;omega) ?_;intro v6 w6 hown6 hg6 _ _;have HO6:Hid (Only (fun _=>False) w3 w6):=(((HO.out.mono (fun _ h=>h.elim)).trans (((Only.refl _ _).alloc _).grown hg6 (fun k h=>h))).old (fun g hg=>Or.inl (HOW.out.lt g hg).1));obtain ⟨g6,cap6,rfl,hgb6,hgl6,hgc6,_⟩:=row_form hown6 (by omega);have HOW6:Hid (w6.ownsRow w3.heap.size 3 1 (.slice (some ⟨g6,0,none⟩) (q+1) cap6) (q+1) (ints (cOf (Bs.take q))++[.int .i64 0])):=hown6;clear hown6 hg6)
              go_roundg (nB - (q+1))
              case measure=>omega
              case rel =>
                refine ⟨q+1,some ⟨g6,0,none⟩,cap6,_,rfl,rfl,by omega,rfl,by go_num,?_,HO6.out⟩
                have h:=HOW6.out
                rw [List.take_add_one,HX.out]
                unfold cOf ints at h ⊢
                rw [List.map_append,List.map_append]
                exact h
            | false =>
              go_wp2_with (at_builtin;refine wpList_append_own_at _ rfl _ _ 23 rfl w3.heap.size 3 i0 (.int .i64 0) 1 8 Tryz.underlying23 hi hz0 hz1 hz2 rfl (by decide) _ _ _ rfl (HOW.out.alloc (.cells #[.int .i64 1] 3)) ⟨W.heap.size,0,none⟩ 1 1 [.int .i64 1] rfl rfl (news1 _ _ _) (fun u hu=>by simp at hu;subst hu;rfl) (by unfold maxLen;omega) (by omega) (by have:=HO.out.size;simp;omega) ?_;intro v6 w6 hown6 hg6 _ _;have HO6:Hid (Only (fun _=>False) w3 w6):=(((HO.out.mono (fun _ h=>h.elim)).trans (((Only.refl _ _).alloc _).grown hg6 (fun k h=>h))).old (fun g hg=>Or.inl (HOW.out.lt g hg).1));obtain ⟨g6,cap6,rfl,hgb6,hgl6,hgc6,_⟩:=row_form hown6 (by omega);have HOW6:Hid (w6.ownsRow w3.heap.size 3 1 (.slice (some ⟨g6,0,none⟩) (q+1) cap6) (q+1) (ints (cOf (Bs.take q))++[.int .i64 1])):=hown6;clear hown6 hg6)
              go_roundg (nB - (q+1))
              case measure=>omega
              case rel =>
                refine ⟨q+1,some ⟨g6,0,none⟩,cap6,_,rfl,rfl,by omega,rfl,by go_num,?_,HO6.out⟩
                have h:=HOW6.out
                rw [List.take_add_one,HX.out]
                unfold cOf ints at h ⊢
                rw [List.map_append,List.map_append]
                exact h
          · have t3:decide ((q:Int) < (nB:Int))=false:=decide_eq_false (by omega)
            have hqn:q=nB:=by omega
            subst hqn
            have HC:Hid (Iw W a q (cOf Bs)∧Tz W∧Mac W (wr.heap.size+1) mb (ruF j) 2 2 nL oL [[1,2],[1,2],[1,2]] [0,2,3]∧Only (fun _=>False) w W):=by
              have h:=hown
              rw [List.take_of_length_le (by rw [HB.out.1];exact Nat.le_refl _)] at h
              exact ⟨iw_own h (by unfold cOf;rw [List.length_map];exact HB.out.1.symm),HT.out.keep (H3.out.2.2.trans ho),H2.out.1.keep (H3.out.2.1.trans ho),H3.out.2.2.trans ho⟩
            clear hown ho
            go_wp2_with fail
            refine Calls.mono (farRun_any hk1 hk5 nL oL HMK.out _ mb a q cap (cOf Bs) W HC.out.2.2.1 (fun c hc=>by unfold cOf at hc;obtain ⟨x,_,rfl⟩:=List.mem_map.1 hc;cases x <;> simp) HC.out.1 (by omega) HC.out.2.1) ?_
            rintro e w4 ⟨g,O,rfl,hUb,hO,ho4⟩
            obtain ⟨M,hM⟩:∃ M,M=q+1:=⟨_,rfl⟩
            rw [← hM]
            obtain ⟨C,hCC⟩:∃ C,C=cOf Bs:=⟨_,rfl⟩
            have HM:Hid (M=q+1):=hM
            have H4:Hid (Ub w4 g O∧(∀ i,0 < i→i < q→O[i]?=some (if C[i]?=some 1∧j≤run0 C i then 0 else 2))∧Iw w4 a q C∧Only (fun _=>False) w w4∧(∀ c∈C,c=0∨c=1)):=by
              rw [hCC]
              exact ⟨hUb,hO,HC.out.1.keep ho4,HC.out.2.2.2.trans ho4,fun c hc=>by unfold cOf at hc;obtain ⟨x,_,rfl⟩:=List.mem_map.1 hc;cases x <;> simp⟩
            have lg:g < w4.heap.size:=hUb.lt
            have hM5:M≤201:=by omega
            have mw:IntKind.i64.wrap ((q:Int)+1)=(M:Int):=by rw [hM];push_cast;exact wrap_small _ (by omega) (by omega)
            clear hUb hO ho4 hM hCC HC H2 H3 HOW HO H1 HB HT HMK HK
            go_wp2_with fail
            go_loopg [13] M (fun gh v wx=>∃ (i:Nat),wx=w4∧gh=M+1 - i∧1≤i∧i≤M∧v=.int .i64 (i:Int))
            case atStart=>exact ⟨1,rfl,by omega,Nat.le_refl _,by have:=HM.out;omega,rfl⟩
            case round =>
              obtain ⟨i,rfl,rfl,hi1,hiM,rfl⟩:=hrel
              by_cases hiq:i < q
              · have t4:(i:Int) < (q:Int):=by omega
                obtain ⟨bC,oC,rfl,lC,hcC⟩:=H4.out.2.2.1.at (by omega)
                have HCC:Hid (∀ (p:Nat) (x:Int),C[p]?=some x→wr.cell? ⟨bC,oC+p,none⟩=some (.int .i64 x)):=fun p x hx=>hcC wr (Only.refl _ _) p x hx
                clear hcC
                go_wp2_with fail
                go_loopg [14] i (fun gh v wx=>∃ (r:Nat),wx=wr∧gh=i - r∧r≤i∧v=.int .i64 (r:Int)∧∀ p,p < r→C[i - 1 - p]?=some 0)
                case atStart=>exact ⟨0,rfl,rfl,Nat.zero_le _,rfl,fun p hp=>absurd hp (Nat.not_lt_zero _)⟩
                case round =>
                  obtain ⟨r,hwx,rfl,hri,rfl,hall⟩:=hrel
                  subst hwx
                  have HALL:Hid (∀ p,p < r→C[i - 1 - p]?=some 0):=hall
                  clear hall
                  by_cases hrlt:r < i
                  · have t5:(r:Int) < (i:Int):=by omega
                    obtain ⟨m,hm⟩:∃ m,m=i - 1 - r:=⟨_,rfl⟩
                    have HMm:Hid (m=i - 1 - r):=hm
                    obtain ⟨x,hx⟩:∃ x,C[m]?=some x:=⟨_,List.getElem?_eq_getElem (by rw [H4.out.2.2.1.1];omega)⟩
                    have HX:Hid (C[m]?=some x):=hx
                    have c0:=HCC.out m x hx
                    have t6:(i:Int) - 1 - (r:Int)=(m:Int):=by omega
                    have t7:(m:Int) < (q:Int):=by omega
                    have t8:IntKind.i64.wrap (m:Int)=(m:Int):=wrap_small _ (by omega) (by omega)
                    have t9:IntKind.i64.wrap ((i:Int) - 1)=(i:Int) - 1:=wrap_small _ (by omega) (by omega)
                    clear hm hx
                    by_cases hx0:x=0
                    · subst hx0
                      go_wp2_with fail
                      go_roundg (i - (r+1))
                      case measure=>omega
                      case rel=>exact ⟨r+1,rfl,rfl,by omega,by go_num,run0_step hrlt HALL.out (by rw [← HMm.out];exact HX.out)⟩
                    · have z0:(x == 0)=false:=by simp [hx0]
                      have HRUN:Hid (run0 C i=r):=run0_stop hri HALL.out (Or.inr (by rw [← HMm.out,HX.out];simp [hx0]))
                      obtain ⟨y,hy⟩:∃ y,C[i]?=some y:=⟨_,List.getElem?_eq_getElem (by rw [H4.out.2.2.1.1];omega)⟩
                      have cY:=HCC.out i y hy
                      have hyv:=H4.out.2.2.2.2 y (List.mem_of_getElem? hy)
                      have hOi:=H4.out.2.1 i (by omega) hiq
                      rw [hy,HRUN.out] at hOi
                      have tM:(i:Int) < (M:Int):=by have:=HM.out;omega
                      have hM6:=HM.out
                      have hiM2:i+1≤M:=by omega
                      clear hM6
                      rcases hyv with rfl | rfl
                      · rw [if_neg (fun h=>by simp at h)] at hOi
                        have cO:=H4.out.1.cell hOi
                        clear hy hOi
                        go_wp2_with fail
                        go_roundg (M+1 - (i+1))
                        case measure=>omega
                        case rel=>exact ⟨i+1,rfl,rfl,by omega,by omega,by go_num⟩
                      · by_cases hjr:j≤r
                        · rw [if_pos ⟨rfl,hjr⟩] at hOi
                          have cO:=H4.out.1.cell hOi
                          have t10:(j:Int)≤(r:Int):=by omega
                          clear hy hOi
                          go_wp2_with fail
                          go_roundg (M+1 - (i+1))
                          case measure=>omega
                          case rel=>exact ⟨i+1,rfl,rfl,by omega,by omega,by go_num⟩
                        · rw [if_neg (fun h=>hjr h.2)] at hOi
                          have cO:=H4.out.1.cell hOi
                          have t10:decide ((j:Int)≤(r:Int))=false:=decide_eq_false (by omega)
                          have t11:¬ (j:Int)≤(r:Int):=by omega
                          clear hy hOi
                          go_wp2_with fail
                          go_roundg (M+1 - (i+1))
                          case measure=>omega
                          case rel=>exact ⟨i+1,rfl,rfl,by omega,by omega,by go_num⟩
                  · have t5:decide ((r:Int) < (i:Int))=false:=decide_eq_false (by omega)
                    have t5':¬ (r:Int) < (i:Int):=by omega
                    have hre:r=i:=by omega
                    have HRUN:Hid (run0 C i=r):=run0_stop hri HALL.out (Or.inl hre)
                    clear hre
                    obtain ⟨y,hy⟩:∃ y,C[i]?=some y:=⟨_,List.getElem?_eq_getElem (by rw [H4.out.2.2.1.1];omega)⟩
                    have cY:=HCC.out i y hy
                    have hyv:=H4.out.2.2.2.2 y (List.mem_of_getElem? hy)
                    have hOi:=H4.out.2.1 i (by omega) hiq
                    rw [hy,HRUN.out] at hOi
                    have tM:(i:Int) < (M:Int):=by have:=HM.out;omega
                    have hM6:=HM.out
                    have hiM2:i+1≤M:=by omega
                    clear hM6
                    rcases hyv with rfl | rfl
                    · rw [if_neg (fun h=>by simp at h)] at hOi
                      have cO:=H4.out.1.cell hOi
                      clear hy hOi
                      go_wp2_with fail
                      go_roundg (M+1 - (i+1))
                      case measure=>omega
                      case rel=>exact ⟨i+1,rfl,rfl,by omega,by omega,by go_num⟩
                    · by_cases hjr:j≤r
                      · rw [if_pos ⟨rfl,hjr⟩] at hOi
                        have cO:=H4.out.1.cell hOi
                        have t10:(j:Int)≤(r:Int):=by omega
                        clear hy hOi
                        go_wp2_with fail
                        go_roundg (M+1 - (i+1))
                        case measure=>omega
                        case rel=>exact ⟨i+1,rfl,rfl,by omega,by omega,by go_num⟩
                      · rw [if_neg (fun h=>hjr h.2)] at hOi
                        have cO:=H4.out.1.cell hOi
                        have t10:decide ((j:Int)≤(r:Int))=false:=decide_eq_false (by omega)
                        have t11:¬ (j:Int)≤(r:Int):=by omega
                        clear hy hOi
                        go_wp2_with fail
                        go_roundg (M+1 - (i+1))
                        case measure=>omega
                        case rel=>exact ⟨i+1,rfl,rfl,by omega,by omega,by go_num⟩
              · have t4:decide ((i:Int) < (q:Int))=false:=decide_eq_false (by omega)
                have t4':¬ (i:Int) < (q:Int):=by omega
                have z1:((M:Int) == (M:Int))=true:=by simp
                go_wp2_with fail
                go_ret
                exact ⟨rfl,H4.out.2.2.2.1⟩
end Go.Proofs.YtchaoonefiamdaaGreatDoor
namespace Go.Proofs.YtchaoonefiamdaaGreatDoor
open Go.ChangeShapes Go.WideShapes Go.ChangeAt Go.RowKit
set_option linter.unusedVariables false
theorem own:ownKnob Tryz.prog.godebug=none:=by kernel_rfl
theorem laidOut:laidOutB Tryz.prog=true:=by kernel_rfl
def tabList : List (String × DataW Unit) := [("math/bits.deBruijn32tab", Rows.laid_math_bits_deBruijn32tab)]
theorem tab_eq:(Rows.laid_math_bits_deBruijn32tab:DataW Unit)=Lib.tabData .u8 tzL:=by kernel_rfl
theorem tz_glob : Tryz.prog.globalNamed "math/bits.deBruijn32tab" = some 0 := by kernel_rfl
theorem tz_of_laid {W:World} (h:laidMetH Tryz.prog tabList W):Tz W:=by
  have h':laidMet Tryz.prog tabList W:=h
  unfold tabList at h'
  rw [tab_eq] at h'
  have hT:=Lib.tabIs_of_head (k:=.u8) (zs:=tzL) (t:=123) (e:=5) (n:=32) tz_glob (by kernel_rfl) (by kernel_rfl) (by kernel_rfl) (by kernel_rfl) (by kernel_rfl) h'
  have hc:∀ (j:Nat) (v:Int),tzL[j]?=some v→W.cell? ⟨0,j,none⟩=some (.int .u8 v):=fun j v hj=>by
    have hl:=(List.getElem?_eq_some_iff.1 hj).1
    have:=hT.cell tz_glob j hl
    rw [List.getD_eq_getElem?_getD,hj,Option.getD_some] at this
    exact this
  exact ⟨World.block_lt_of_cell? W ⟨0,0,none⟩ (hc 0 0 rfl),hc⟩
def layTab:Obj→Obj
  | .cells _ t frozen=>.cells (tzL.map (Value.int .u8)).toArray t frozen
  | o=>o
def laidWorld (P:Program) (os:Os):World :=
  { World.holding P os ⟨#[],#[],[]⟩ with heap:=(World.holding P os ⟨#[],#[],[]⟩).heap.modify 0 layTab }
theorem laid_met (os:Os) (args:Array Value):laidMet Tryz.prog tabList ((laidWorld Tryz.prog os).forCall (fun _ _=>0) ⟨#[],args,[]⟩).memory :=
  laidMet_of_run' 8 (by kernel_rfl) (by kernel_rfl)
set_option maxRecDepth 100000 in
theorem bools_view {H:Type} {enc:TypeId × Value→H} {W:World} {v:Value} {d:DataW H} {p:List MemPlace} {b0:Nat} (hv:Value.okWide Tryz.prog W .any b0 39 v)
    (h:DataW.Trod enc Tryz.prog W 0 (fun _=>true) true 39 v d p):∃ (a:Option Addr) (n cap:Nat) (L:List Bool),v=.slice a n cap∧Bw W a n L:=by
  obtain ⟨a,len,cap,rfl⟩:=okWide_slice Tryz.underlying39 hv
  obtain ⟨fuel,hf⟩:=h
  rcases Go.Deep.open_bools (t:=39) (e:=4) Tryz.underlying39 Tryz.underlying4 (by kernel_rfl) hf with ⟨e,_⟩ | ⟨y,l,c,B,e,_,hl,_,_,hcell⟩
  · have e2:[Value.slice a len cap]=[Value.slice none 0 0]:=e
    injection e2 with e2
    rw [e2]
    exact ⟨none,0,0,[],rfl,rfl,0,0,fun h=>absurd h (Nat.lt_irrefl _),fun j x hj=>by simp at hj⟩
  · have e2:[Value.slice a len cap]=[Value.slice (some y) l c]:=e
    injection e2 with e2
    rw [e2]
    refine ⟨some y,l,c,(List.range l).map B,rfl,by simp,?_⟩
    by_cases h0:0 < l
    · obtain ⟨b,off,spot⟩:=y
      have hspot:spot=none:=by simpa [Addr.add] using World.cell?_spot (hcell 0 (by omega))
      subst hspot
      have hcc:∀ j,j < l→W.cell? ⟨b,off+j,none⟩=some (.bool (B j)):=fun j hj=>by rw [← Go.WideShapes.add_plain];exact hcell j (by omega)
      refine ⟨b,off,fun _=>⟨rfl,World.block_lt_of_cell? W _ (hcc 0 h0)⟩,fun j x hj=>?_⟩
      have hjl:=(List.getElem?_eq_some_iff.1 hj).1
      simp at hjl
      rw [List.getElem?_map,List.getElem?_range hjl] at hj
      injection hj with hj
      rw [hcc j hjl,hj]
    · refine ⟨0,0,fun h=>absurd h h0,fun j x hj=>?_⟩
      have hjl:=(List.getElem?_eq_some_iff.1 hj).1
      simp at hjl
      omega
end Go.Proofs.YtchaoonefiamdaaGreatDoor
