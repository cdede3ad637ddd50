/- Sts2 -/
import Derived.Test.YtchaoonefiamdaaGreatDoorZ19
namespace Go.Proofs.YtchaoonefiamdaaGreatDoor
open Go.RowKit Go.Maps
set_option linter.unusedVariables false
set_option linter.unusedSimpArgs false
set_option maxRecDepth 100000 in
set_option maxHeartbeats 8000000 in
theorem states_any (g cl:Nat) (p:Au.Pl) (l:List Au.Nd) (fs:Nat) (vL:Value) (w:World) (hP:Plm w g cl p fs vL (emK l)) (hL:Lw w (fun b=>b < w.heap.size) vL (l.map (·.last))) (hp2:p.sets.length≤200) (hcl:cl≤24) (hl:l.length≤24) (hLs:∀ x∈l.map (·.last),x < 2 ^ 256) (hby:∀ c,Au.by' p c < 2 ^ 256) :
    Calls Tryz.prog 36 #[.pointer (some ⟨g,0,none⟩)] w (stsP w cl (Au.states p l fs cl 301 0 [0] [] [])):=by
  have hlt:=hP.lt
  have hmm:=@run_makeMap Tryz.prog
  obtain ⟨i7,h7,h70,h71,h72⟩:=info_parts info73b
  have hMe:Hid ((((w.alloc (.cells #[.slice none 0 0,.slice none 0 0] 63)).alloc (.cells #[.slice none 0 0,.slice none 0 0] 63)).alloc (.map #[] 0)).ownsMap Tryz.prog 95 (plainElem Tryz.prog 3) (w.heap.size+1+1) 0 (DataW.map []:DataW Unit)):=by
    have h:=World.ownsMap_made (H:=Unit) ((w.alloc (.cells #[.slice none 0 0,.slice none 0 0] 63)).alloc (.cells #[.slice none 0 0,.slice none 0 0] 63)) Tryz.prog 95 (plainElem Tryz.prog 3)
    have e:((w.alloc (.cells #[.slice none 0 0,.slice none 0 0] 63)).alloc (.cells #[.slice none 0 0,.slice none 0 0] 63)).heap.size=w.heap.size+1+1:=by simp
    rw [e] at h
    exact h
  have HP:Hid (Plm w g cl p fs vL (emK l)):=hP
  have HL:Hid (Lw w (fun b=>b < w.heap.size) vL (l.map (·.last))):=hL
  clear hP hL
  go_enter Tryz.func36,Tryz.ntmps36
  go_wp2_with (refine wpList_insert_own _ rfl _ _ _ 117 rfl 95 3 law73 Tryz.underlying117 _ (w.heap.size+1+1) 0 (DataW.map []:DataW Unit) rfl hMe.out (by unfold maxLen;omega) _ _ _ rfl rfl (kc_key0) _ [] (plainElem_int Tryz.underlying3 (wf_i64 (a:=0) (by omega))) ?_;intro w1 hM1 hg1)
  have hO1:Only (·=w.heap.size+1+1) (((w.alloc (.cells #[.slice none 0 0,.slice none 0 0] 63)).alloc (.cells #[.slice none 0 0,.slice none 0 0] 63)).alloc (.map #[] 0)) w1:=(Only.refl (·=w.heap.size+1+1) _).grown hg1 (fun k h=>by injection h with h;exact h.symm)
  have hs1:w.heap.size+1+1+1≤w1.heap.size:=by have:=hO1.size;simp at this;omega
  have hOa:Only (fun h=>w.heap.size≤h) w w1:=((((Only.refl _ _).alloc _).alloc _).alloc _).trans (hO1.mono (fun _ h=>by omega))
  have HO0:Hid (Ost w (w1.alloc (.cells #[.int .u64 0,.int .u64 0,.int .u64 0,.int .u64 0] 95)) g cl p fs vL (emK l) (l.map (·.last)) [0] (.slice (some ⟨w1.heap.size,0,none⟩) 1 1) [] [] (.slice none 0 0) (.slice none 0 0)):=by
    refine ⟨HP.out.only (hOa.alloc _) (by omega),hlt,HL.out.only (hOa.alloc _) (fun b hb=>by omega),⟨_,hM1.alloc _,kds_first⟩,⟨rfl,Or.inr ⟨w1.heap.size,1,#[.int .u64 0,.int .u64 0,.int .u64 0,.int .u64 0],rfl,hs1,heap_alloc_new _ _,Nat.le_refl _,by unfold maxLen;omega,rfl,by simp [flS,sC,wd_zero]⟩⟩,?_,?_,World.ownsRow_nil _ _ _ _,World.ownsRow_nil _ _ _ _,(fun r hr=>by cases hr),hOa.alloc _⟩
    · refine (Below.heap_alloc _ _ _ (by omega)).trans ((hO1.block _ (by simp;omega) (by omega)).trans ?_)
      exact (Below.heap_alloc _ _ _ (by simp;omega)).trans ((Below.heap_alloc _ _ _ (by simp)).trans (heap_alloc_new _ _))
    · refine (Below.heap_alloc _ _ _ (by omega)).trans ((hO1.block _ (by simp) (by omega)).trans ?_)
      exact (Below.heap_alloc _ _ _ (by simp)).trans (heap_alloc2_new _ _ _)
  clear hM1 hg1 hO1 hOa HP HL
  obtain ⟨i3,h3,h30,h31,h32⟩:=info_parts info3b
  obtain ⟨i4,h4,h40,h41,h42⟩:=info_parts info43
  obtain ⟨i5,h5,h50,h51,h52⟩:=info_parts info47
  have HLs:Hid (∀ x∈l.map (·.last),x < 2 ^ 256):=hLs
  have HBy:Hid (∀ c,Au.by' p c < 2 ^ 256):=hby
  clear hLs hby hMe
  go_loopg [6,7] 301 (fun gh v6 v7 wr=>∃ (n:Nat) (found:List Nat) (fb fcap:Nat) (rows:List (Nat × List Nat)) (o:List Nat) (vN vO:Value) (W:World),W=wr∧gh=301 - n∧0 < found.length∧n≤found.length∧found.length≤300∧v6=.slice (some ⟨fb,0,none⟩) found.length fcap∧v7=.int .i64 (n:Int)∧rows.length=n∧o.length=n∧(∀ x∈found,x < 2 ^ 256)∧Au.states p l fs cl (301 - n) n found (rows.map (·.2)) o=Au.states p l fs cl 301 0 [0] [] []∧Ost w W g cl p fs vL (emK l) (l.map (·.last)) found (.slice (some ⟨fb,0,none⟩) found.length fcap) rows o vN vO)
  case atStart=>exact ⟨0,[0],w1.heap.size,1,[],[],_,_,_,rfl,rfl,by simp,by simp,by simp,rfl,rfl,rfl,rfl,by intro x hx;simp at hx;subst hx;exact Nat.two_pow_pos _,rfl,HO0.out⟩
  case round =>
    obtain ⟨n,found,fb,fcap,rows,o,vN,vO,W,hW,rfl,hn0,hn1,hn2,rfl,rfl,hrl,hol,hsm,hst,hos⟩:=hrel
    subst hW
    have HST:Hid (Au.states p l fs cl (301 - n) n found (rows.map (·.2)) o=Au.states p l fs cl 301 0 [0] [] []):=hst
    have HOS:Hid (Ost w W g cl p fs vL (emK l) (l.map (·.last)) found (.slice (some ⟨fb,0,none⟩) found.length fcap) rows o vN vO):=hos
    have HSM:Hid (∀ x∈found,x < 2 ^ 256):=hsm
    have HRL:Hid (rows.length=n∧o.length=n):=⟨hrl,hol⟩
    clear hst hsm hrl hol HO0
    have hgl:=hos.gl
    have hgW:g < W.heap.size:=hos.pl.lt
    obtain ⟨fb',fcap',hfv,hfb,hfl,hfc,hfcell⟩:=row_form hos.fd hn0
    injection hfv with e1 e2 e3
    injection e1 with e1
    injection e1 with e1
    subst e1 e3
    have HFC:Hid (∀ j,j < found.length*4→W.cell? ⟨fb,j,none⟩=(flS found)[j]?):=hfcell
    clear hfcell e2
    have c0:=hos.pl.c0
    clear hos
    obtain ⟨fl,hfleq⟩:∃ fl,fl=found.length:=⟨_,rfl⟩
    have HFL:Hid (fl=found.length):=hfleq
    rw [← hfleq] at hn0 hn1 hn2 hfc ⊢
    clear hfleq
    by_cases hlt4:n < fl
    · have t1:(n:Int) < (fl:Int):=by omega
      obtain ⟨s,hs⟩:∃ s,found[n]?=some s:=⟨_,List.getElem?_eq_getElem (by rw [← HFL.out];exact hlt4)⟩
      have HS:Hid (found[n]?=some s):=hs
      have hss:s < 2 ^ 256:=HSM.out s (List.mem_of_getElem? hs)
      have HSS:Hid (s < 2 ^ 256):=hss
      have hkp:∀ j,j < 4→W.cell? ⟨fb,n*4+j,none⟩=some (.int .u64 (wd s j:Int)):=fun j hj=>by
        rw [HFC.out (n*4+j) (by rw [← HFL.out];omega)]
        exact flS_at found n j s hs hj
      have b0:W.cell? ⟨fb,n*4,none⟩=some (.int .u64 (wd s 0:Int)):=hkp 0 (by decide)
      have b1:W.cell? ⟨fb,n*4+1,none⟩=some (.int .u64 (wd s 1:Int)):=hkp 1 (by decide)
      have b2:W.cell? ⟨fb,n*4+2,none⟩=some (.int .u64 (wd s 2:Int)):=hkp 2 (by decide)
      have b3:W.cell? ⟨fb,n*4+3,none⟩=some (.int .u64 (wd s 3:Int)):=hkp 3 (by decide)
      clear hkp hs hss
      go_wp2_with (first | (go_at_call 56;refine (mayc_any g cl p.sets.length _ _ fs vL (emK l) s _ HOS.out.pl hp2).mono ?_;rintro e w2 ⟨rfl,ho2⟩;have HOS2:Hid (Ost w w2 g cl p fs vL (emK l) (l.map (·.last)) found (.slice (some ⟨fb,0,none⟩) found.length fcap) rows o vN vO):=HOS.out.only0 ho2;have HO2:Hid (Only (fun _=>False) W w2):=ho2;have d0:w2.cell? ⟨g,0,none⟩=some (.int .i64 (cl:Int)):=HOS2.out.pl.c0;have hgw2:g < w2.heap.size:=HOS2.out.pl.lt;clear ho2;unfold sV sC) | (at_make;refine wpList_make_full _ rfl _ _ 23 rfl (w.heap.size+1+1+1) 3 i3 (.int .i64 0) 1 Tryz.underlying23 h3 h30 h31 .i64 .i64 _ _ cl rfl rfl rfl rfl (by rw [h32];omega) (by unfold maxLen;omega) (by have:=HOS2.out.on.size;have:=hfl;have:=HO2.out.size;simp;omega) ?_;intro w4 hown4 hg4;have HOW4:Hid (w4.ownsRow (w.heap.size+1+1+1) 3 1 (.slice (some ⟨(w2.alloc (.cells #[.int .u64 (wd (mayK p.next fs s p.sets.length) 0:Int),.int .u64 (wd (mayK p.next fs s p.sets.length) 1:Int),.int .u64 (wd (mayK p.next fs s p.sets.length) 2:Int),.int .u64 (wd (mayK p.next fs s p.sets.length) 3:Int)] 95)).heap.size,0,none⟩) cl cl) cl (madeCells (Value.int .i64 0).cells (cl*1)).toList):=hown4;have HO4:Hid (Only (fun _=>False) (w2.alloc (.cells #[.int .u64 (wd (mayK p.next fs s p.sets.length) 0:Int),.int .u64 (wd (mayK p.next fs s p.sets.length) 1:Int),.int .u64 (wd (mayK p.next fs s p.sets.length) 2:Int),.int .u64 (wd (mayK p.next fs s p.sets.length) 3:Int)] 95)) w4):=(Only.refl _ _).grown hg4 (fun k h=>by cases h);have d4:w4.cell? ⟨g,0,none⟩=some (.int .i64 (cl:Int)):=((HOS2.out.only0 ((Only.refl _ _).alloc _)).only0 HO4.out).pl.c0;clear hown4 hg4))
      have ewb:(w2.alloc (.cells #[.int .u64 (wd (mayK p.next fs s p.sets.length) 0:Int),.int .u64 (wd (mayK p.next fs s p.sets.length) 1:Int),.int .u64 (wd (mayK p.next fs s p.sets.length) 2:Int),.int .u64 (wd (mayK p.next fs s p.sets.length) 3:Int)] 95)).heap.size=w2.heap.size+1:=by simp
      have hown4:=HOW4.out
      rw [ewb] at hown4
      obtain ⟨hwlo,hwb⟩:=made_wcs hown4
      have HOS4:Hid (Ost w w4 g cl p fs vL (emK l) (l.map (·.last)) found (.slice (some ⟨fb,0,none⟩) found.length fcap) rows o vN vO):=(HOS2.out.only0 ((Only.refl _ _).alloc _)).only0 HO4.out
      have HMB:Hid (Sb w4 w2.heap.size (mayK p.next fs s p.sets.length)):=Sb.only (w:=w2.alloc (.cells #[.int .u64 (wd (mayK p.next fs s p.sets.length) 0:Int),.int .u64 (wd (mayK p.next fs s p.sets.length) 1:Int),.int .u64 (wd (mayK p.next fs s p.sets.length) 2:Int),.int .u64 (wd (mayK p.next fs s p.sets.length) 3:Int)] 95)) (heap_alloc_new _ _) HO4.out (fun h=>h)
      have HWB:Hid (w4.heap[w2.heap.size+1]?=some (.cells (wcs [] cl) 3 (0,0))):=hwb
      have HNR:Hid (∀ r∈rows,r.1≠w2.heap.size+1):=fun r hr e=>by
        have:=(Array.getElem?_eq_some_iff.1 (HOS2.out.ro r hr).2.1).1
        omega
      have hfbm:fb < w2.heap.size:=Nat.lt_of_lt_of_le hfl HO2.out.size
      clear hown4 HOW4 ewb hwb d0 c0 b0 b1 b2 b3 HO2
      obtain ⟨m,hm⟩:∃ m,m=mayK p.next fs s p.sets.length:=⟨_,rfl⟩
      have HM:Hid (m=mayK p.next fs s p.sets.length):=hm
      rw [← hm] at HMB
      clear hm
      go_loopg [6,40] cl (fun gh v6 v40 wr=>∃ (k:Nat) (found1:List Nat) (fb1 fcap1:Nat) (L:List Nat) (W1:World),W1=wr∧gh=cl - k∧k≤cl∧found1.length≤300∧v6=.slice (some ⟨fb1,0,none⟩) found1.length fcap1∧v40=.int .i64 (k:Int)∧L.length=k∧fb1≠w2.heap.size∧found.length≤found1.length∧found1[n]?=some s∧(∀ x∈found1,x < 2 ^ 256)∧Au.ways p m ((List.range cl).drop k) found1 L=Au.ways p m (List.range cl) found []∧W1.heap[w2.heap.size+1]?=some (.cells (wcs L cl) 3 (0,0))∧Sb W1 w2.heap.size m∧Ost w W1 g cl p fs vL (emK l) (l.map (·.last)) found1 (.slice (some ⟨fb1,0,none⟩) found1.length fcap1) rows o vN vO)
      case atStart=>exact ⟨0,found,fb,fcap,[],_,rfl,rfl,Nat.zero_le _,by rw [← HFL.out];exact hn2,by rw [HFL.out],rfl,rfl,by omega,Nat.le_refl _,HS.out,HSM.out,rfl,HWB.out,HMB.out,HOS4.out⟩
      case round =>
        obtain ⟨k,found1,fb1,fcap1,L,W1,hW1,rfl,hk,hf300,rfl,rfl,hLk,hfbm1,hff,hfn,hsm1,hways,hwb1,hmb1,hos1⟩:=hrel
        subst hW1
        have HWY:Hid (Au.ways p m ((List.range cl).drop k) found1 L=Au.ways p m (List.range cl) found []):=hways
        have HOS1:Hid (Ost w W1 g cl p fs vL (emK l) (l.map (·.last)) found1 (.slice (some ⟨fb1,0,none⟩) found1.length fcap1) rows o vN vO):=hos1
        have HWB1:Hid (W1.heap[w2.heap.size+1]?=some (.cells (wcs L cl) 3 (0,0))):=hwb1
        have HMB1:Hid (Sb W1 w2.heap.size m):=hmb1
        have HSM1:Hid (∀ x∈found1,x < 2 ^ 256):=hsm1
        have HFN:Hid (found1[n]?=some s∧found.length≤found1.length):=⟨hfn,hff⟩
        have HLK:Hid (L.length=k):=hLk
        have hgW1:g < W1.heap.size:=hos1.pl.lt
        clear hways hos1 hwb1 hmb1 hsm1 hfn hff hLk HWB HMB HOS4 d4
        by_cases hlt5:k < cl
        · have t5:(k:Int) < (cl:Int):=by omega
          have hB:byP cl p k=Au.by' p k:=if_pos hlt5
          have hbc:∀ j,j < 4→W1.cell? ⟨g,2+k*4+j,none⟩=some (.int .u64 (wd (Au.by' p k) j:Int)):=fun j hj=>by
            rw [← hB,Nat.mul_comm]
            exact (cell_blk HOS1.out.pl).trans (pC_by _ _ _ _ _ _ _ k (by omega) j hj)
          have y0:W1.cell? ⟨g,2+k*4,none⟩=some (.int .u64 (wd (Au.by' p k) 0:Int)):=hbc 0 (by decide)
          have y1:W1.cell? ⟨g,2+k*4+1,none⟩=some (.int .u64 (wd (Au.by' p k) 1:Int)):=hbc 1 (by decide)
          have y2:W1.cell? ⟨g,2+k*4+2,none⟩=some (.int .u64 (wd (Au.by' p k) 2:Int)):=hbc 2 (by decide)
          have y3:W1.cell? ⟨g,2+k*4+3,none⟩=some (.int .u64 (wd (Au.by' p k) 3:Int)):=hbc 3 (by decide)
          have x0:=HMB1.out.c 0 (by decide)
          have x1:=HMB1.out.c 1 (by decide)
          have x2:=HMB1.out.c 2 (by decide)
          have x3:=HMB1.out.c 3 (by decide)
          have hk24:(k:Int) < 24:=by omega
          have hmw:w2.heap.size < W1.heap.size:=HMB1.out.lt
          clear hB hbc
          go_wp2_with fail
          go_cut [11,40] from 40 to 75 (fun v v40 wq=>∃ (sb:Nat) (W2:World),W2=wq∧v=.pointer (some ⟨sb,0,none⟩)∧v40=.int .i64 (k:Int)∧W1.heap.size≤sb∧Sb W2 sb (m &&& Au.by' p k)∧Only (fun _=>False) W1 W2)
          case first =>
            go_region_with (first | (go_at_call 57;refine (both_any m (Au.by' p k) _).mono ?_;rintro e w5 ⟨rfl,ho5⟩;have hz5:w5.heap[W1.heap.size]?=some (.cells #[.int .u64 0,.int .u64 0,.int .u64 0,.int .u64 0] 95 (0,0)):=(ho5.block W1.heap.size (by simp) (fun h=>h)).trans (heap_alloc_new W1 (.cells #[.int .u64 0,.int .u64 0,.int .u64 0,.int .u64 0] 95));have z0:w5.cell? ⟨W1.heap.size,0,none⟩=some (.int .u64 0):=cell_blk hz5;have z1:w5.cell? ⟨W1.heap.size,1,none⟩=some (.int .u64 0):=cell_blk hz5;have z2:w5.cell? ⟨W1.heap.size,2,none⟩=some (.int .u64 0):=cell_blk hz5;have z3:w5.cell? ⟨W1.heap.size,3,none⟩=some (.int .u64 0):=cell_blk hz5;have q0:=fz_blk hz5 0;have q1:=fz_blk hz5 1;have q2:=fz_blk hz5 2;have q3:=fz_blk hz5 3;have HZ5:Hid (w5.heap[W1.heap.size]?=some (.cells #[.int .u64 0,.int .u64 0,.int .u64 0,.int .u64 0] 95 (0,0))):=hz5;have HA5:Hid (Only (fun _=>False) W1 w5):=(((Only.refl _ _).alloc _).drew).trans ho5;clear hz5 ho5;unfold sV sC) | (go_at_call 57;refine (both_any m (Au.by' p k) _).mono ?_;rintro e w5 ⟨rfl,ho5⟩;have HB5:Hid (Only (fun _=>False) W1 w5):=((Only.refl _ _).drew).trans ho5;clear ho5;unfold sV sC))
            all_goals
              go_wp2_with fail
              go_meet
              case rel =>
                first
                  | exact ⟨w5.heap.size,_,rfl,rfl,rfl,HB5.out.size,heap_alloc_new _ _,HB5.out.alloc _⟩
                  | exact ⟨W1.heap.size,_,rfl,rfl,rfl,Nat.le_refl _,put4_at (o:=0) HZ5.out,(put4_only (P:=fun h=>W1.heap.size≤h) (HA5.out.mono (fun _ h=>h.elim)) 0 (m &&& Au.by' p k) (Nat.le_refl _)).old (fun _ h=>Or.inl h)⟩
          case rest =>
            obtain ⟨sb,W2,hW2,rfl,rfl,hsb,hSb,hO2⟩:=hcut
            subst hW2
            have HSB:Hid (Sb W2 sb (m &&& Au.by' p k)):=hSb
            have HOS2:Hid (Ost w W2 g cl p fs vL (emK l) (l.map (·.last)) found1 (.slice (some ⟨fb1,0,none⟩) found1.length fcap1) rows o vN vO):=HOS1.out.only0 hO2
            have HWB2:Hid (W2.heap[w2.heap.size+1]?=some (.cells (wcs L cl) 3 (0,0))):=(hO2.block _ (Array.getElem?_eq_some_iff.1 HWB1.out).1 (fun h=>h)).trans HWB1.out
            have HMB2:Hid (Sb W2 w2.heap.size m):=HMB1.out.only hO2 (fun h=>h)
            have hgW2:g < W2.heap.size:=HOS2.out.pl.lt
            have hwbl:w2.heap.size+1 < W1.heap.size:=(Array.getElem?_eq_some_iff.1 HWB1.out).1
            have hsbl:sb < W2.heap.size:=hSb.lt
            have hSS:(m &&& Au.by' p k) < 2 ^ 256:=Nat.lt_of_le_of_lt Nat.and_le_right (HBy.out k)
            have HSS2:Hid ((m &&& Au.by' p k) < 2 ^ 256):=hSS
            have hwy:=HWY.out
            rw [List.drop_eq_getElem_cons (by simpa using hlt5),List.getElem_range] at hwy
            have HW3:Hid (Au.ways p m (k :: (List.range cl).drop (k+1)) found1 L=Au.ways p m (List.range cl) found []):=hwy
            obtain ⟨D,hD,hKD⟩:=HOS2.out.mp
            have HD:Hid (W2.ownsMap Tryz.prog 95 (plainElem Tryz.prog 3) (w.heap.size+1+1) found1.length D):=hD
            have HKD:Hid (KDs D found1):=hKD
            have hIM:IsMap D:=hD.isMap
            have HIM:Hid (IsMap D):=hIM
            clear hO2 hSb hwy hD hKD hIM x0 x1 x2 x3 y0 y1 y2 y3 hSS HMB1 HWB1 HOS1
            by_cases hin:(m &&& Au.by' p k)∈found1
            · have hh:Maps.has D (kc Tryz.prog (m &&& Au.by' p k))=true:=by rw [(HKD.out _ HSS2.out).2];simp [hin]
              have HIN:Hid ((m &&& Au.by' p k)∈found1):=hin
              have e4:W2.cell? ⟨w2.heap.size+1,k,none⟩=some (.int .i64 ((L[k]?.getD 0:Nat):Int)):=(cell_blk HWB2.out).trans (wcs_at L cl k hlt5)
              have q4:=fz_blk HWB2.out k
              clear hin
              go_wp2_with (first | refine wpList_load_row rfl 95 _ rfl sb rfl 95 _ (0,0) _ HSB.out Tryz.underlying95 rfl sz73 ?_ | (at_lookup;refine wpList_lookup_own_ok_int _ rfl _ _ 117 rfl 95 3 .i64 law73 Tryz.underlying117 Tryz.underlying3 (zero3 _) (w.heap.size+1+1) found1.length D rfl HD.out _ _ rfl (kc_key _) ?_;intro c hat hwc;have hcq:c=(found1.idxOf (m &&& Au.by' p k):Int):=(by have e1:=(HKD.out _ HSS2.out).1;rw [if_pos HIN.out,hat] at e1;injection e1 with e1;injection e1);subst hcq;clear hat hwc))
              go_roundg (cl - (k+1))
              case measure=>omega
              case rel =>
                have hO5:Only (·=w2.heap.size+1) W2 (W2.setCell ⟨w2.heap.size+1,k,none⟩ (.int .i64 (found1.idxOf (m &&& Au.by' p k):Int))):=(Only.refl (·=w2.heap.size+1) _).setCell (p:=⟨w2.heap.size+1,k,none⟩) rfl _
                refine ⟨k+1,found1,fb1,fcap1,L++[found1.idxOf (m &&& Au.by' p k)],_,rfl,rfl,by omega,hf300,rfl,by go_num,by simp [HLK.out],hfbm1,HFN.out.2,HFN.out.1,HSM1.out,?_,?_,HMB2.out.only hO5 (by omega),HOS2.out.ways HWB2.out (by decide) (by decide) (by decide) HNR.out hwlo hO5⟩
                · rw [← HW3.out]
                  simp only [Au.ways]
                  rw [if_pos HIN.out]
                · have h:=heap_setCell_at (k:=k) HWB2.out (.int .i64 (found1.idxOf (m &&& Au.by' p k):Int))
                  have e5:=wcs_set L cl (found1.idxOf (m &&& Au.by' p k)) (by rw [HLK.out];exact hlt5)
                  rw [HLK.out] at e5
                  rw [e5] at h
                  exact h
            · have hh:Maps.has D (kc Tryz.prog (m &&& Au.by' p k))=false:=by rw [(HKD.out _ HSS2.out).2];simp [hin]
              have HIN:Hid ((m &&& Au.by' p k) ∉ found1):=hin
              clear hin
              by_cases h300:found1.length=300
              · have q3:((found1.length:Int) == 300)=true:=by rw [h300];rfl
                have hR:Au.states p l fs cl 301 0 [0] [] []=none:=by
                  rw [← HST.out,show 301 - n=(300 - n)+1 by omega]
                  simp only [Au.states,HS.out]
                  have e:Au.may p fs s=m:=HM.out.symm
                  rw [e,← HW3.out]
                  simp only [Au.ways]
                  rw [if_neg HIN.out,if_pos h300]
                have HR:Hid (Au.states p l fs cl 301 0 [0] [] []=none):=hR
                clear hR h300
                have r0:W2.cell? ⟨w.heap.size,0,none⟩=some (.slice none 0 0):=cell_blk HOS2.out.rb
                have r1:W2.cell? ⟨w.heap.size,1,none⟩=some (.slice none 0 0):=cell_blk HOS2.out.rb
                have r2:=fz_blk HOS2.out.rb 0
                have r3:=fz_blk HOS2.out.rb 1
                go_wp2_with (first | refine wpList_load_row rfl 95 _ rfl sb rfl 95 _ (0,0) _ HSB.out Tryz.underlying95 rfl sz73 ?_ | (at_lookup;refine wpList_lookup_own_ok_int _ rfl _ _ 117 rfl 95 3 .i64 law73 Tryz.underlying117 Tryz.underlying3 (zero3 _) (w.heap.size+1+1) found1.length D rfl HD.out _ _ rfl (kc_key _) ?_;intro c hat hwc;clear hat hwc))
                refine bodyPost_ret (v:=.tuple #[noAut,.int .i64 27]) (results_row1 (p:=2) (u:=3) rfl _ _ w.heap.size 63 #[.slice none 0 0,.slice none 0 0] (0,0) _ rfl (heap_setCell_at (heap_setCell_at HOS2.out.rb _) _) Tryz.underlying63 rfl sz33 rfl) rfl ?_
                rw [HR.out]
                refine ⟨rfl,?_⟩
                exact Only.old (P:=fun h=>w.heap.size≤h) (Only.setCell (S:=fun h=>w.heap.size≤h) (Only.setCell (S:=fun h=>w.heap.size≤h) HOS2.out.on (p:=⟨w.heap.size,0,none⟩) (Nat.le_refl w.heap.size) _) (p:=⟨w.heap.size,1,none⟩) (Nat.le_refl w.heap.size) _) (fun _ h=>Or.inl h)
              · have q3:((found1.length:Int) == 300)=false:=by simp;omega
                have hf299:found1.length < 300:=by omega
                clear h300
                go_wp2_with (first | refine wpList_load_row rfl 95 _ rfl sb rfl 95 _ (0,0) _ HSB6.out Tryz.underlying95 rfl sz73 ?_ | refine wpList_load_row rfl 95 _ rfl sb rfl 95 _ (0,0) _ HSB.out Tryz.underlying95 rfl sz73 ?_ | (at_lookup;refine wpList_lookup_own_ok_int _ rfl _ _ 117 rfl 95 3 .i64 law73 Tryz.underlying117 Tryz.underlying3 (zero3 _) (w.heap.size+1+1) found1.length D rfl HD.out _ _ rfl (kc_key _) ?_;intro c hat hwc;clear hat hwc) | (at_mapUpdate;refine wpList_mapUpdate_own _ rfl _ _ _ 117 rfl 95 3 law73 Tryz.underlying117 _ (w.heap.size+1+1) found1.length D rfl HD.out (by unfold maxLen;omega) _ _ _ rfl rfl (kc_key _) _ [] (plainElem_int Tryz.underlying3 (wf_i64 (a:=found1.length) (by omega))) ?_;intro w6 hM6 hg6;have HM6:Hid (w6.ownsMap Tryz.prog 95 (plainElem Tryz.prog 3) (w.heap.size+1+1) (found1.length+1) (D.put (kc Tryz.prog (m &&& Au.by' p k)) (.lit (.int .i64 (found1.length:Int))))):=hM6;have HO6:Hid (Only (·=w.heap.size+1+1) W2 w6):=(Only.refl (·=w.heap.size+1+1) _).grown hg6 (fun k h=>by injection h with h;exact h.symm);have HSB6:Hid (Sb w6 sb (m &&& Au.by' p k)):=HSB.out.only HO6.out (by omega);have HF6:Hid (w6.ownsRow (w.heap.size+1+1+1) 95 4 (.slice (some ⟨fb1,0,none⟩) found1.length fcap1) found1.length (flS found1)):=own_keep HOS2.out.fd HO6.out (fun q hq e=>by have:=(HOS2.out.fd.lt q hq).1;omega);have hw6:W2.heap.size≤w6.heap.size:=HO6.out.size;clear hM6 hg6 HSB) | refine wpList_buildSlice rfl 98 95 1 _ rfl (sC (m &&& Au.by' p k)) i7 _ Tryz.underlying98 h7 h70 (by rw [h71];decide) (by rw [h71];decide) (fill_one h71 rfl rfl (by decide)) ?_ | (at_builtin;refine wpList_append_own_at _ rfl _ _ 98 rfl (w.heap.size+1+1+1) 95 i7 _ 4 32 Tryz.underlying98 h7 h70 h71 h72 rfl (by decide) _ _ _ rfl (HF6.out.alloc (.cells (sC (m &&& Au.by' p k)) 95)) ⟨w6.heap.size,0,none⟩ 1 1 (sC (m &&& Au.by' p k)).toList rfl rfl (sC_news _ _) (sC_cells _) (by unfold maxLen;omega) (by omega) (by simp;omega) ?_;intro v7 w7 hown7 hg7 _ hbl7;have HG7:Hid (Only (fun q=>(Value.slice (some ⟨fb1,0,none⟩) found1.length fcap1).ownBlock=some q) w6 w7):=((Only.refl _ _).alloc _).trans ((Only.refl _ _).grown hg7 (fun k h=>h));obtain ⟨fb7,fcap7,rfl,hfb7,hfl7,hfc7,_⟩:=row_form hown7 (by omega);have HF7:Hid (w7.ownsRow (w.heap.size+1+1+1) 95 4 (.slice (some ⟨fb7,0,none⟩) (found1.length+1) fcap7) (found1.length+1) (flS found1++(sC (m &&& Au.by' p k)).toList)):=hown7;have HNE:Hid (fb7≠w2.heap.size):=ne_of_blk hbl7 hfbm1 (by simp;omega);have HWB6:Hid (w6.heap[w2.heap.size+1]?=some (.cells (wcs L cl) 3 (0,0))):=(HO6.out.block _ (Array.getElem?_eq_some_iff.1 HWB2.out).1 (by omega)).trans HWB2.out;have HWB7:Hid (w7.heap[w2.heap.size+1]?=some (.cells (wcs L cl) 3 (0,0))):=(HG7.out.block _ (Array.getElem?_eq_some_iff.1 HWB6.out).1 (own_ne HF6.out HWB6.out (by decide))).trans HWB6.out;have HMB7:Hid (Sb w7 w2.heap.size m):=(HMB2.out.only HO6.out (by omega)).only HG7.out (blk_ne hfbm1);have e4:w7.cell? ⟨w2.heap.size+1,k,none⟩=some (.int .i64 ((L[k]?.getD 0:Nat):Int)):=(cell_blk HWB7.out).trans (wcs_at L cl k hlt5);have q4:=fz_blk HWB7.out k;clear hown7 hg7 hbl7))
                have HOS7:Hid (Ost w w7 g cl p fs vL (emK l) (l.map (·.last)) (found1++[(m &&& Au.by' p k)]) (.slice (some ⟨fb7,0,none⟩) (found1.length+1) fcap7) rows o vN vO):=HOS2.out.more HSS2.out HIN.out HKD.out HIM.out HM6.out HO6.out HF7.out HG7.out
                go_roundg (cl - (k+1))
                case measure=>omega
                case rel =>
                  have el:(found1++[(m &&& Au.by' p k)]).length=found1.length+1:=by simp
                  have hO5:Only (·=w2.heap.size+1) w7 (w7.setCell ⟨w2.heap.size+1,k,none⟩ (.int .i64 (found1.length:Int))):=(Only.refl (·=w2.heap.size+1) _).setCell (p:=⟨w2.heap.size+1,k,none⟩) rfl _
                  refine ⟨k+1,found1++[(m &&& Au.by' p k)],fb7,fcap7,L++[found1.length],_,rfl,rfl,by omega,by rw [el];omega,by rw [el],by go_num,by simp [HLK.out],HNE.out,by rw [el];have:=HFN.out.2;omega,?_,?_,?_,?_,HMB7.out.only hO5 (by omega),?_⟩
                  · rw [List.getElem?_append_left (List.getElem?_eq_some_iff.1 HFN.out.1).1]
                    exact HFN.out.1
                  · intro x hx
                    rcases List.mem_append.1 hx with hx | hx
                    · exact HSM1.out x hx
                    · simp at hx
                      rw [hx]
                      exact HSS2.out
                  · rw [← HW3.out]
                    simp only [Au.ways]
                    rw [if_neg HIN.out,if_neg (by omega)]
                  · have h:=heap_setCell_at (k:=k) HWB7.out (.int .i64 (found1.length:Int))
                    have e5:=wcs_set L cl found1.length (by rw [HLK.out];exact hlt5)
                    rw [HLK.out] at e5
                    rw [e5] at h
                    exact h
                  · rw [el]
                    exact HOS7.out.ways HWB7.out (by decide) (by decide) (by decide) HNR.out hwlo hO5
        · have t6:decide ((k:Int) < (cl:Int))=false:=decide_eq_false (by omega)
          obtain rfl:k=cl:=by omega
          have hwy:=HWY.out
          rw [List.drop_eq_nil_of_le (by simp)] at hwy
          have HW3:Hid (some (found1,L)=Au.ways p m (List.range k) found []):=hwy
          obtain ⟨aN,cN,hvN⟩:=own_form HOS1.out.nx
          obtain ⟨aO,cO,hvO⟩:=own_form HOS1.out.ot
          subst hvN hvO
          have k0:W1.cell? ⟨w.heap.size+1,0,none⟩=some (.slice aN rows.length cN):=cell_blk HOS1.out.ab
          have f0:=fz_blk HOS1.out.ab 0
          have hab:w.heap.size+1 < W1.heap.size:=(Array.getElem?_eq_some_iff.1 HOS1.out.ab).1
          clear hwy
          have hr300:rows.length≤300:=by rw [HRL.out.1];omega
          have ho300:o.length≤300:=by rw [HRL.out.2];omega
          have hfb1b:w.heap.size+1+1+1≤fb1:=(HOS1.out.fd.lt fb1 rfl).1
          go_wp2_with (at_builtin;refine wpList_append_own_at _ rfl _ _ 60 rfl (w.heap.size+1+1+1) 23 i4 _ 1 24 Tryz.underlying60 h4 h40 h41 h42 rfl (by decide) _ _ _ rfl (HOS1.out.nx.alloc (.cells #[(.slice (some ⟨w2.heap.size+1,0,none⟩) k k)] 23)) ⟨W1.heap.size,0,none⟩ 1 1 [(.slice (some ⟨w2.heap.size+1,0,none⟩) k k)] rfl rfl (news1 _ _ _) (fun u hu=>by simp at hu;subst hu;rfl) (by unfold maxLen;omega) (by omega) (by simp;omega) ?_;intro v8 w8 hown8 hg8 _ _;obtain ⟨nb8,nc8,rfl,hnb8,hnl8,hnc8,_⟩:=row_form hown8 (by omega);have HG8:Hid (Only (fun q=>(Value.slice aN rows.length cN).ownBlock=some q) W1 w8):=((Only.refl _ _).alloc _).trans ((Only.refl _ _).grown hg8 (fun k h=>h));have HOS8:Hid (Ost w (w8.setCell ⟨w.heap.size+1,0,none⟩ (.slice (some ⟨nb8,0,none⟩) (rows.length+1) nc8)) g k p fs vL (emK l) (l.map (·.last)) found1 (.slice (some ⟨fb1,0,none⟩) found1.length fcap1) (rows++[(w2.heap.size+1,L)]) o (.slice (some ⟨nb8,0,none⟩) (rows.length+1) nc8) (.slice aO o.length cO)):=HOS1.out.next (r:=(w2.heap.size+1,L)) ⟨hwlo,HWB1.out,HLK.out⟩ hown8 HG8.out;have k8:w8.cell? ⟨w.heap.size+1,0,none⟩=some (.slice aN rows.length cN):=(World.cell?_of_block (a:=⟨w.heap.size+1,0,none⟩) (HG8.out.block (w.heap.size+1) hab (fun e=>by have:=(HOS1.out.nx.lt _ e).1;omega))).trans k0;have f8:w8.frozen? ⟨w.heap.size+1,0,none⟩=false:=fz_blk ((HG8.out.block (w.heap.size+1) hab (fun e=>by have:=(HOS1.out.nx.lt _ e).1;omega)).trans HOS1.out.ab) 0;clear hown8 hg8)
          generalize w8.setCell ⟨w.heap.size+1,0,none⟩ (.slice (some ⟨nb8,0,none⟩) (rows.length+1) nc8)=Wn at HOS8 ⊢
          clear k0 f0 k8 f8 HG8
          have hfc1:∀ j,j < 4→Wn.cell? ⟨fb1,n*4+j,none⟩=some (.int .u64 (wd s j:Int)):=fun j hj=>by
            obtain ⟨fb',fcap',hfv,_,_,_,hfcell⟩:=row_form HOS8.out.fd (by have:=(List.getElem?_eq_some_iff.1 HFN.out.1).1;omega)
            injection hfv with e1 e2 e3
            injection e1 with e1
            injection e1 with e1
            subst e1
            rw [hfcell (n*4+j) (by have:=(List.getElem?_eq_some_iff.1 HFN.out.1).1;omega)]
            exact flS_at found1 n j s HFN.out.1 hj
          have hnf:(n:Int) < (found1.length:Int):=by have:=(List.getElem?_eq_some_iff.1 HFN.out.1).1;omega
          have u0:Wn.cell? ⟨fb1,n*4,none⟩=some (.int .u64 (wd s 0:Int)):=hfc1 0 (by decide)
          have u1:Wn.cell? ⟨fb1,n*4+1,none⟩=some (.int .u64 (wd s 1:Int)):=hfc1 1 (by decide)
          have u2:Wn.cell? ⟨fb1,n*4+2,none⟩=some (.int .u64 (wd s 2:Int)):=hfc1 2 (by decide)
          have u3':Wn.cell? ⟨fb1,n*4+3,none⟩=some (.int .u64 (wd s 3:Int)):=hfc1 3 (by decide)
          have o1:Wn.cell? ⟨w.heap.size+1,1,none⟩=some (.slice aO o.length cO):=cell_blk HOS8.out.ab
          have HOSd:Hid (Ost w Wn.drew g k p fs vL (emK l) (l.map (·.last)) found1 (.slice (some ⟨fb1,0,none⟩) found1.length fcap1) (rows++[(w2.heap.size+1,L)]) o (.slice (some ⟨nb8,0,none⟩) (rows.length+1) nc8) (.slice aO o.length cO)):=HOS8.out.only0 (Only.refl _ _).drew
          have HSC:Hid (∀ (W':World),W'.ownsRow (w.heap.size+1+1+1) 95 4 (.slice (some ⟨fb1,0,none⟩) found1.length fcap1) found1.length (flS found1)→(fun (w':World)=>w'.cell? ⟨fb1,n*4,none⟩=some (.int .u64 (wd s 0:Int))∧w'.cell? ⟨fb1,n*4+1,none⟩=some (.int .u64 (wd s 1:Int))∧w'.cell? ⟨fb1,n*4+2,none⟩=some (.int .u64 (wd s 2:Int))∧w'.cell? ⟨fb1,n*4+3,none⟩=some (.int .u64 (wd s 3:Int))) W'):=fun W' hfd=>by
            have hj:∀ j,j < 4→W'.cell? ⟨fb1,n*4+j,none⟩=some (.int .u64 (wd s j:Int)):=fun j hj=>by
              obtain ⟨fb',fcap',hfv,_,_,_,hfcell⟩:=row_form hfd (by have:=(List.getElem?_eq_some_iff.1 HFN.out.1).1;omega)
              injection hfv with e1 e2 e3
              injection e1 with e1
              injection e1 with e1
              subst e1
              rw [hfcell (n*4+j) (by have:=(List.getElem?_eq_some_iff.1 HFN.out.1).1;omega)]
              exact flS_at found1 n j s HFN.out.1 hj
            exact ⟨hj 0 (by decide),hj 1 (by decide),hj 2 (by decide),hj 3 (by decide)⟩
          have HOUT:Hid (∀ (W':World),Plm W' g k p fs vL (emK l)→Lw W' (fun b=>b < w.heap.size) vL (l.map (·.last))→Calls Tryz.prog 58 #[.pointer (some ⟨g,0,none⟩),Value.agg #[.int .u64 (wd s 0:Int),.int .u64 (wd s 1:Int),.int .u64 (wd s 2:Int),.int .u64 (wd s 3:Int)]] W' fun e w'=>e=.returned (.int .u32 (Au.out l s:Int))∧Only (fun _=>False) W' w'):=fun W' hP' hL'=>by
            have h:=out_any (fun b=>b < w.heap.size) g k p.sets.length _ _ fs vL (emK l) s (l.map (·.last)) W' hP' hL' (by simpa using hl) (emK_lt l hl) HSS.out HLs.out
            have e:outK (l.map (·.last)) s (emK l) (l.map (·.last)).length=Au.out l s:=by rw [List.length_map];exact out_eq l s
            rw [e] at h
            exact h
          have hab9:w.heap.size+1+1+1≤Wn.heap.size:=by have:=(HOS8.out.fd.lt fb1 rfl).2;omega
          have hWn:Wn.heap.size≤Wn.heap.size:=Nat.le_refl _
          clear u0 u1 u2 u3' hfc1
          refine wp_region_held_drew (S:=fun (w':World)=>w'.cell? ⟨fb1,n*4,none⟩=some (.int .u64 (wd s 0:Int))∧w'.cell? ⟨fb1,n*4+1,none⟩=some (.int .u64 (wd s 1:Int))∧w'.cell? ⟨fb1,n*4+2,none⟩=some (.int .u64 (wd s 2:Int))∧w'.cell? ⟨fb1,n*4+3,none⟩=some (.int .u64 (wd s 3:Int))) (by kernel_rfl) (HSC.out _ HOSd.out.fd) (fun hHeld=>?_)
          refine wpAnyH_take (i:=0) (v:=Value.pointer (some ⟨w.heap.size+1,1,none⟩)) rfl (by kernel_rfl) (by kernel_rfl) (by kernel_rfl) (fun _ _ _ h=>h) (Or.inl ⟨by rfl,fun w hSw=>by first | (go_simp;done) | go_simp⟩) (by assumption) ?_
          simp only [Act.put,List.setIfInBounds_toArray,List.set_cons_zero,List.set_cons_succ]
          refine wpAnyH_take (i:=2) (v:=Value.pointer (some ⟨g,0,none⟩)) rfl (by kernel_rfl) (by kernel_rfl) (by kernel_rfl) (fun _ _ _ h=>h) (Or.inl ⟨by rfl,fun w hSw=>by first | (go_simp;done) | go_simp⟩) (by assumption) ?_
          simp only [Act.put,List.setIfInBounds_toArray,List.set_cons_zero,List.set_cons_succ]
          refine wpAnyH_take (i:=3) (v:=Value.slice (some ⟨fb1,0,none⟩) found1.length fcap1) rfl (by kernel_rfl) (by kernel_rfl) (by kernel_rfl) (fun _ _ _ h=>h) (Or.inl ⟨by rfl,fun w hSw=>by first | (go_simp;done) | go_simp⟩) (by assumption) ?_
          simp only [Act.put,List.setIfInBounds_toArray,List.set_cons_zero,List.set_cons_succ]
          refine wpAnyH_take (i:=4) (v:=Value.int .i64 (n:Int)) rfl (by kernel_rfl) (by kernel_rfl) (by kernel_rfl) (fun _ _ _ h=>h) (Or.inl ⟨by rfl,fun w hSw=>by first | (go_simp;done) | go_simp⟩) (by assumption) ?_
          simp only [Act.put,List.setIfInBounds_toArray,List.set_cons_zero,List.set_cons_succ]
          refine wpAnyH_take (i:=5) (v:=Value.pointer (some ⟨fb1,n*4,none⟩)) rfl (by kernel_rfl) (by kernel_rfl) (by kernel_rfl) (fun _ _ _ h=>h) (Or.inl ⟨by rfl,fun w hSw=>by first | (go_simp;done) | go_simp⟩) (by assumption) ?_
          simp only [Act.put,List.setIfInBounds_toArray,List.set_cons_zero,List.set_cons_succ]
          refine wpAnyH_take (i:=6) (v:=Value.agg #[.int .u64 (wd s 0:Int),.int .u64 (wd s 1:Int),.int .u64 (wd s 2:Int),.int .u64 (wd s 3:Int)]) rfl (by kernel_rfl) (by kernel_rfl) (by kernel_rfl) (fun _ _ _ h=>h) (Or.inl ⟨by rfl,fun w hSw=>by obtain ⟨q0,q1,q2,q3⟩:=hSw;go_simp⟩) (by assumption) ?_
          simp only [Act.put,List.setIfInBounds_toArray,List.set_cons_zero,List.set_cons_succ]
          refine wpAnyH_ready (rs:=[1,7]) (by kernel_rfl) (by simp) ?_
          refine AllReadyH.cons rfl (fun K hK=>?_) (AllReadyH.cons rfl (fun K hK=>?_) AllReadyH.nil)
          · rw [if_pos (by rfl)]
            go_simp
            refine hK.out _ _ (HSC.out _ HOSd.out.fd) (fun hHeldX=>?_)
            clear hK
            refine wpAnyH_ready (rs:=[7]) (by kernel_rfl) (by simp) ?_
            refine AllReadyH.cons rfl (fun K hK=>?_) AllReadyH.nil
            rw [if_pos (by rfl)]
            go_simp
            refine (HOUT.out _ HOSd.out.pl HOSd.out.lw).mono ?_
            rintro e w9 ⟨rfl,ho9⟩
            have HOS9:Hid (Ost w w9 g k p fs vL (emK l) (l.map (·.last)) found1 (.slice (some ⟨fb1,0,none⟩) found1.length fcap1) (rows++[(w2.heap.size+1,L)]) o (.slice (some ⟨nb8,0,none⟩) (rows.length+1) nc8) (.slice aO o.length cO)):=HOSd.out.only0 ho9
            have HOS9a:Hid (Ost w (w9.alloc (.cells #[.int .u32 (Au.out l s:Int)] 42)) g k p fs vL (emK l) (l.map (·.last)) found1 (.slice (some ⟨fb1,0,none⟩) found1.length fcap1) (rows++[(w2.heap.size+1,L)]) o (.slice (some ⟨nb8,0,none⟩) (rows.length+1) nc8) (.slice aO o.length cO)):=HOS9.out.only0 ((Only.refl _ _).alloc _)
            have p1:w9.cell? ⟨w.heap.size+1,1,none⟩=some (.slice aO o.length cO):=cell_blk HOS9.out.ab
            have p1a:(w9.alloc (.cells #[.int .u32 (Au.out l s:Int)] 42)).cell? ⟨w.heap.size+1,1,none⟩=some (.slice aO o.length cO):=cell_blk HOS9a.out.ab
            refine hK.out _ _ (HSC.out _ HOS9.out.fd) (fun hHeldC=>?_)
            clear hK
            refine wpAnyH_ready (rs:=[8]) (by kernel_rfl) (by simp) ?_
            refine AllReadyH.cons rfl (fun K hK=>?_) AllReadyH.nil
            rw [if_pos (by rfl)]
            go_simp
            refine hK.out _ _ (HSC.out _ HOS9a.out.fd) (fun hHeldD=>?_)
            clear hK
            refine wpAnyH_ready (rs:=[9]) (by kernel_rfl) (by simp) ?_
            refine AllReadyH.cons rfl (fun K hK=>?_) AllReadyH.nil
            refine step_of_wp rfl (wp_append_at _ _ _ 61 rfl (w.heap.size+1+1+1) 42 i5 _ 1 4 Tryz.underlying61 h5 h50 h51 h52 rfl (by decide) (.slice aO o.length cO) o.length (o.map u32V) rfl HOS9a.out.ot ⟨w9.heap.size,0,none⟩ 1 1 [u32V (Au.out l s)] rfl rfl (u32_news _ _) (fun u hu=>by simp at hu;subst hu;rfl) (by unfold maxLen;omega) (by omega) (by have:=HOS9a.out.fd.lt fb1 rfl;omega) ?_)
            intro v10 w10 hown10 hg10
            obtain ⟨ob10,oc10,rfl,hob10,hol10,hoc10,_⟩:=row_form hown10 (by omega)
            have hG10:Only (fun q=>(Value.slice aO o.length cO).ownBlock=some q) (w9.alloc (.cells #[.int .u32 (Au.out l s:Int)] 42)) w10:=(Only.refl _ _).grown hg10 (fun k h=>h)
            have HOS11:Hid (Ost w (w10.setCell ⟨w.heap.size+1,1,none⟩ (.slice (some ⟨ob10,0,none⟩) (o.length+1) oc10)) g k p fs vL (emK l) (l.map (·.last)) found1 (.slice (some ⟨fb1,0,none⟩) found1.length fcap1) (rows++[(w2.heap.size+1,L)]) (o++[Au.out l s]) (.slice (some ⟨nb8,0,none⟩) (rows.length+1) nc8) (.slice (some ⟨ob10,0,none⟩) (o.length+1) oc10)):=HOS9a.out.tell (x:=Au.out l s) hown10 hG10
            have hab10:w10.heap[w.heap.size+1]?=some (.cells #[.slice (some ⟨nb8,0,none⟩) (rows.length+1) nc8,.slice aO o.length cO] 63 (0,0)):=(hG10.block _ (Array.getElem?_eq_some_iff.1 HOS9a.out.ab).1 (fun e=>by have:=(HOS9a.out.ot.lt _ e).1;omega)).trans HOS9a.out.ab
            have hfd10:w10.ownsRow (w.heap.size+1+1+1) 95 4 (.slice (some ⟨fb1,0,none⟩) found1.length fcap1) found1.length (flS found1):=by
              refine own_keep HOS9a.out.fd hG10 (fun q hq e=>?_)
              obtain ⟨_,⟨hv,_⟩ | ⟨g',cap,cur,hv,_,hh,_⟩⟩:=HOS9a.out.fd
              · rw [hv] at hq;cases hq
              · rw [hv] at hq
                injection hq with hq
                simp only at hq
                subst hq
                exact own_ne HOS9a.out.ot hh (by decide) e
            have d10:w10.cell? ⟨w.heap.size+1,1,none⟩=some (.slice aO o.length cO):=cell_blk hab10
            have g10:=fz_blk hab10 1
            refine hK.out _ _ (HSC.out _ hfd10) (fun hHeldE=>?_)
            clear hK
            try simp only [Act.put,List.setIfInBounds_toArray,List.set_cons_zero,List.set_cons_succ]
            refine wpAnyH_take (i:=10) (v:=Value.pointer (some ⟨w.heap.size+1,1,none⟩)) rfl (by kernel_rfl) (by kernel_rfl) (by kernel_rfl) (fun _ _ _ h=>h) (Or.inl ⟨by rfl,fun w hSw=>by first | (go_simp;done) | go_simp⟩) (by assumption) ?_
            simp only [Act.put,List.setIfInBounds_toArray,List.set_cons_zero,List.set_cons_succ]
            refine wpAnyH_ready (rs:=[11]) (by kernel_rfl) (by simp) ?_
            refine AllReadyH.cons rfl (fun K hK=>?_) AllReadyH.nil
            rw [if_pos (by rfl)]
            go_simp
            refine hK.out _ _ (HSC.out _ HOS11.out.fd) (fun hHeldF=>?_)
            clear hK
            refine wpAnyH_done (by kernel_rfl) ?_ _
            clear hHeldE hHeldF
            go_wp2_with fail
            go_roundg (301 - (n+1))
            case measure=>omega
            case rel =>
              refine ⟨n+1,found1,fb1,fcap1,rows++[(w2.heap.size+1,L)],o++[Au.out l s],.slice (some ⟨nb8,0,none⟩) (rows.length+1) nc8,.slice (some ⟨ob10,0,none⟩) (o.length+1) oc10,_,rfl,rfl,by have:=(List.getElem?_eq_some_iff.1 HFN.out.1).1;omega,by have:=(List.getElem?_eq_some_iff.1 HFN.out.1).1;omega,hf300,rfl,by go_num,by simp [HRL.out.1],by simp [HRL.out.2],HSM1.out,?_,?_⟩
              · rw [← HST.out,show 301 - n=(300 - n)+1 by omega]
                simp only [Au.states,HS.out]
                have e:Au.may p fs s=m:=HM.out.symm
                rw [e,← HW3.out,show 301 - (n+1)=300 - n by omega,List.map_append]
                rfl
              · have el1:(rows++[(w2.heap.size+1,L)]).length=rows.length+1:=by simp
                exact HOS11.out
          · rw [if_pos (by rfl)]
            go_simp
            refine (HOUT.out _ HOSd.out.pl HOSd.out.lw).mono ?_
            rintro e w9 ⟨rfl,ho9⟩
            have HOS9:Hid (Ost w w9 g k p fs vL (emK l) (l.map (·.last)) found1 (.slice (some ⟨fb1,0,none⟩) found1.length fcap1) (rows++[(w2.heap.size+1,L)]) o (.slice (some ⟨nb8,0,none⟩) (rows.length+1) nc8) (.slice aO o.length cO)):=HOSd.out.only0 ho9
            have HOS9a:Hid (Ost w (w9.alloc (.cells #[.int .u32 (Au.out l s:Int)] 42)) g k p fs vL (emK l) (l.map (·.last)) found1 (.slice (some ⟨fb1,0,none⟩) found1.length fcap1) (rows++[(w2.heap.size+1,L)]) o (.slice (some ⟨nb8,0,none⟩) (rows.length+1) nc8) (.slice aO o.length cO)):=HOS9.out.only0 ((Only.refl _ _).alloc _)
            have p1:w9.cell? ⟨w.heap.size+1,1,none⟩=some (.slice aO o.length cO):=cell_blk HOS9.out.ab
            have p1a:(w9.alloc (.cells #[.int .u32 (Au.out l s:Int)] 42)).cell? ⟨w.heap.size+1,1,none⟩=some (.slice aO o.length cO):=cell_blk HOS9a.out.ab
            refine hK.out _ _ (HSC.out _ HOS9.out.fd) (fun hHeldC=>?_)
            clear hK
            refine wpAnyH_ready (rs:=[1,8]) (by kernel_rfl) (by simp) ?_
            refine AllReadyH.cons rfl (fun K hK=>?_) (AllReadyH.cons rfl (fun K hK=>?_) AllReadyH.nil)
            · rw [if_pos (by rfl)]
              go_simp
              refine hK.out _ _ (HSC.out _ HOS9.out.fd) (fun hHeldX=>?_)
              clear hK
              refine wpAnyH_ready (rs:=[8]) (by kernel_rfl) (by simp) ?_
              refine AllReadyH.cons rfl (fun K hK=>?_) AllReadyH.nil
              rw [if_pos (by rfl)]
              go_simp
              refine hK.out _ _ (HSC.out _ HOS9a.out.fd) (fun hHeldD=>?_)
              clear hK
              refine wpAnyH_ready (rs:=[9]) (by kernel_rfl) (by simp) ?_
              refine AllReadyH.cons rfl (fun K hK=>?_) AllReadyH.nil
              refine step_of_wp rfl (wp_append_at _ _ _ 61 rfl (w.heap.size+1+1+1) 42 i5 _ 1 4 Tryz.underlying61 h5 h50 h51 h52 rfl (by decide) (.slice aO o.length cO) o.length (o.map u32V) rfl HOS9a.out.ot ⟨w9.heap.size,0,none⟩ 1 1 [u32V (Au.out l s)] rfl rfl (u32_news _ _) (fun u hu=>by simp at hu;subst hu;rfl) (by unfold maxLen;omega) (by omega) (by have:=HOS9a.out.fd.lt fb1 rfl;omega) ?_)
              intro v10 w10 hown10 hg10
              obtain ⟨ob10,oc10,rfl,hob10,hol10,hoc10,_⟩:=row_form hown10 (by omega)
              have hG10:Only (fun q=>(Value.slice aO o.length cO).ownBlock=some q) (w9.alloc (.cells #[.int .u32 (Au.out l s:Int)] 42)) w10:=(Only.refl _ _).grown hg10 (fun k h=>h)
              have HOS11:Hid (Ost w (w10.setCell ⟨w.heap.size+1,1,none⟩ (.slice (some ⟨ob10,0,none⟩) (o.length+1) oc10)) g k p fs vL (emK l) (l.map (·.last)) found1 (.slice (some ⟨fb1,0,none⟩) found1.length fcap1) (rows++[(w2.heap.size+1,L)]) (o++[Au.out l s]) (.slice (some ⟨nb8,0,none⟩) (rows.length+1) nc8) (.slice (some ⟨ob10,0,none⟩) (o.length+1) oc10)):=HOS9a.out.tell (x:=Au.out l s) hown10 hG10
              have hab10:w10.heap[w.heap.size+1]?=some (.cells #[.slice (some ⟨nb8,0,none⟩) (rows.length+1) nc8,.slice aO o.length cO] 63 (0,0)):=(hG10.block _ (Array.getElem?_eq_some_iff.1 HOS9a.out.ab).1 (fun e=>by have:=(HOS9a.out.ot.lt _ e).1;omega)).trans HOS9a.out.ab
              have hfd10:w10.ownsRow (w.heap.size+1+1+1) 95 4 (.slice (some ⟨fb1,0,none⟩) found1.length fcap1) found1.length (flS found1):=by
                refine own_keep HOS9a.out.fd hG10 (fun q hq e=>?_)
                obtain ⟨_,⟨hv,_⟩ | ⟨g',cap,cur,hv,_,hh,_⟩⟩:=HOS9a.out.fd
                · rw [hv] at hq;cases hq
                · rw [hv] at hq
                  injection hq with hq
                  simp only at hq
                  subst hq
                  exact own_ne HOS9a.out.ot hh (by decide) e
              have d10:w10.cell? ⟨w.heap.size+1,1,none⟩=some (.slice aO o.length cO):=cell_blk hab10
              have g10:=fz_blk hab10 1
              refine hK.out _ _ (HSC.out _ hfd10) (fun hHeldE=>?_)
              clear hK
              try simp only [Act.put,List.setIfInBounds_toArray,List.set_cons_zero,List.set_cons_succ]
              refine wpAnyH_take (i:=10) (v:=Value.pointer (some ⟨w.heap.size+1,1,none⟩)) rfl (by kernel_rfl) (by kernel_rfl) (by kernel_rfl) (fun _ _ _ h=>h) (Or.inl ⟨by rfl,fun w hSw=>by first | (go_simp;done) | go_simp⟩) (by assumption) ?_
              simp only [Act.put,List.setIfInBounds_toArray,List.set_cons_zero,List.set_cons_succ]
              refine wpAnyH_ready (rs:=[11]) (by kernel_rfl) (by simp) ?_
              refine AllReadyH.cons rfl (fun K hK=>?_) AllReadyH.nil
              rw [if_pos (by rfl)]
              go_simp
              refine hK.out _ _ (HSC.out _ HOS11.out.fd) (fun hHeldF=>?_)
              clear hK
              refine wpAnyH_done (by kernel_rfl) ?_ _
              clear hHeldE hHeldF
              go_wp2_with fail
              go_roundg (301 - (n+1))
              case measure=>omega
              case rel =>
                refine ⟨n+1,found1,fb1,fcap1,rows++[(w2.heap.size+1,L)],o++[Au.out l s],.slice (some ⟨nb8,0,none⟩) (rows.length+1) nc8,.slice (some ⟨ob10,0,none⟩) (o.length+1) oc10,_,rfl,rfl,by have:=(List.getElem?_eq_some_iff.1 HFN.out.1).1;omega,by have:=(List.getElem?_eq_some_iff.1 HFN.out.1).1;omega,hf300,rfl,by go_num,by simp [HRL.out.1],by simp [HRL.out.2],HSM1.out,?_,?_⟩
                · rw [← HST.out,show 301 - n=(300 - n)+1 by omega]
                  simp only [Au.states,HS.out]
                  have e:Au.may p fs s=m:=HM.out.symm
                  rw [e,← HW3.out,show 301 - (n+1)=300 - n by omega,List.map_append]
                  rfl
                · have el1:(rows++[(w2.heap.size+1,L)]).length=rows.length+1:=by simp
                  exact HOS11.out
            · rw [if_pos (by rfl)]
              go_simp
              refine hK.out _ _ (HSC.out _ HOS9a.out.fd) (fun hHeldD=>?_)
              clear hK
              refine wpAnyH_ready (rs:=[1]) (by kernel_rfl) (by simp) ?_
              refine AllReadyH.cons rfl (fun K hK=>?_) AllReadyH.nil
              rw [if_pos (by rfl)]
              go_simp
              refine hK.out _ _ (HSC.out _ HOS9a.out.fd) (fun hHeldX=>?_)
              clear hK
              refine wpAnyH_ready (rs:=[9]) (by kernel_rfl) (by simp) ?_
              refine AllReadyH.cons rfl (fun K hK=>?_) AllReadyH.nil
              refine step_of_wp rfl (wp_append_at _ _ _ 61 rfl (w.heap.size+1+1+1) 42 i5 _ 1 4 Tryz.underlying61 h5 h50 h51 h52 rfl (by decide) (.slice aO o.length cO) o.length (o.map u32V) rfl HOS9a.out.ot ⟨w9.heap.size,0,none⟩ 1 1 [u32V (Au.out l s)] rfl rfl (u32_news _ _) (fun u hu=>by simp at hu;subst hu;rfl) (by unfold maxLen;omega) (by omega) (by have:=HOS9a.out.fd.lt fb1 rfl;omega) ?_)
              intro v10 w10 hown10 hg10
              obtain ⟨ob10,oc10,rfl,hob10,hol10,hoc10,_⟩:=row_form hown10 (by omega)
              have hG10:Only (fun q=>(Value.slice aO o.length cO).ownBlock=some q) (w9.alloc (.cells #[.int .u32 (Au.out l s:Int)] 42)) w10:=(Only.refl _ _).grown hg10 (fun k h=>h)
              have HOS11:Hid (Ost w (w10.setCell ⟨w.heap.size+1,1,none⟩ (.slice (some ⟨ob10,0,none⟩) (o.length+1) oc10)) g k p fs vL (emK l) (l.map (·.last)) found1 (.slice (some ⟨fb1,0,none⟩) found1.length fcap1) (rows++[(w2.heap.size+1,L)]) (o++[Au.out l s]) (.slice (some ⟨nb8,0,none⟩) (rows.length+1) nc8) (.slice (some ⟨ob10,0,none⟩) (o.length+1) oc10)):=HOS9a.out.tell (x:=Au.out l s) hown10 hG10
              have hab10:w10.heap[w.heap.size+1]?=some (.cells #[.slice (some ⟨nb8,0,none⟩) (rows.length+1) nc8,.slice aO o.length cO] 63 (0,0)):=(hG10.block _ (Array.getElem?_eq_some_iff.1 HOS9a.out.ab).1 (fun e=>by have:=(HOS9a.out.ot.lt _ e).1;omega)).trans HOS9a.out.ab
              have hfd10:w10.ownsRow (w.heap.size+1+1+1) 95 4 (.slice (some ⟨fb1,0,none⟩) found1.length fcap1) found1.length (flS found1):=by
                refine own_keep HOS9a.out.fd hG10 (fun q hq e=>?_)
                obtain ⟨_,⟨hv,_⟩ | ⟨g',cap,cur,hv,_,hh,_⟩⟩:=HOS9a.out.fd
                · rw [hv] at hq;cases hq
                · rw [hv] at hq
                  injection hq with hq
                  simp only at hq
                  subst hq
                  exact own_ne HOS9a.out.ot hh (by decide) e
              have d10:w10.cell? ⟨w.heap.size+1,1,none⟩=some (.slice aO o.length cO):=cell_blk hab10
              have g10:=fz_blk hab10 1
              refine hK.out _ _ (HSC.out _ hfd10) (fun hHeldE=>?_)
              clear hK
              try simp only [Act.put,List.setIfInBounds_toArray,List.set_cons_zero,List.set_cons_succ]
              refine wpAnyH_take (i:=10) (v:=Value.pointer (some ⟨w.heap.size+1,1,none⟩)) rfl (by kernel_rfl) (by kernel_rfl) (by kernel_rfl) (fun _ _ _ h=>h) (Or.inl ⟨by rfl,fun w hSw=>by first | (go_simp;done) | go_simp⟩) (by assumption) ?_
              simp only [Act.put,List.setIfInBounds_toArray,List.set_cons_zero,List.set_cons_succ]
              refine wpAnyH_ready (rs:=[11]) (by kernel_rfl) (by simp) ?_
              refine AllReadyH.cons rfl (fun K hK=>?_) AllReadyH.nil
              rw [if_pos (by rfl)]
              go_simp
              refine hK.out _ _ (HSC.out _ HOS11.out.fd) (fun hHeldF=>?_)
              clear hK
              refine wpAnyH_done (by kernel_rfl) ?_ _
              clear hHeldE hHeldF
              go_wp2_with fail
              go_roundg (301 - (n+1))
              case measure=>omega
              case rel =>
                refine ⟨n+1,found1,fb1,fcap1,rows++[(w2.heap.size+1,L)],o++[Au.out l s],.slice (some ⟨nb8,0,none⟩) (rows.length+1) nc8,.slice (some ⟨ob10,0,none⟩) (o.length+1) oc10,_,rfl,rfl,by have:=(List.getElem?_eq_some_iff.1 HFN.out.1).1;omega,by have:=(List.getElem?_eq_some_iff.1 HFN.out.1).1;omega,hf300,rfl,by go_num,by simp [HRL.out.1],by simp [HRL.out.2],HSM1.out,?_,?_⟩
                · rw [← HST.out,show 301 - n=(300 - n)+1 by omega]
                  simp only [Au.states,HS.out]
                  have e:Au.may p fs s=m:=HM.out.symm
                  rw [e,← HW3.out,show 301 - (n+1)=300 - n by omega,List.map_append]
                  rfl
                · have el1:(rows++[(w2.heap.size+1,L)]).length=rows.length+1:=by simp
                  exact HOS11.out
    · have t2:decide ((n:Int) < (fl:Int))=false:=decide_eq_false (by omega)
      have hR:Au.states p l fs cl 301 0 [0] [] []=some (rows.map (·.2),o):=by
        rw [← HST.out,show 301 - n=(300 - n)+1 by omega]
        simp only [Au.states]
        rw [List.getElem?_eq_none (by rw [← HFL.out];omega)]
      have HR:Hid (Au.states p l fs cl 301 0 [0] [] []=some (rows.map (·.2),o)):=hR
      clear hR
      obtain ⟨aN,cN,hvN⟩:=own_form HOS.out.nx
      obtain ⟨aO,cO,hvO⟩:=own_form HOS.out.ot
      subst hvN hvO
      have k0:W.cell? ⟨w.heap.size+1,0,none⟩=some (.slice aN rows.length cN):=cell_blk HOS.out.ab
      have k1:W.cell? ⟨w.heap.size+1,1,none⟩=some (.slice aO o.length cO):=cell_blk HOS.out.ab
      have r0:W.cell? ⟨w.heap.size,0,none⟩=some (.slice none 0 0):=cell_blk HOS.out.rb
      have r1:W.cell? ⟨w.heap.size,1,none⟩=some (.slice none 0 0):=cell_blk HOS.out.rb
      have r2:=fz_blk HOS.out.rb 0
      have r3:=fz_blk HOS.out.rb 1
      go_wp2_with fail
      have hS2:Only (·=w.heap.size) W ((W.setCell ⟨w.heap.size,0,none⟩ (.slice aN rows.length cN)).setCell ⟨w.heap.size,1,none⟩ (.slice aO o.length cO)):=Only.setCell (S:=(·=w.heap.size)) (Only.setCell (S:=(·=w.heap.size)) (Only.refl _ _) (p:=⟨w.heap.size,0,none⟩) rfl _) (p:=⟨w.heap.size,1,none⟩) rfl _
      refine bodyPost_ret (v:=.tuple #[.agg #[.slice aN rows.length cN,.slice aO o.length cO],.int .i64 0]) (results_row1 (p:=2) (u:=3) rfl _ _ w.heap.size 63 #[.slice aN rows.length cN,.slice aO o.length cO] (0,0) _ rfl (heap_setCell_at (heap_setCell_at HOS.out.rb _) _) Tryz.underlying63 rfl sz33 rfl) rfl ?_
      rw [HR.out]
      refine ⟨⟨_,rfl,rows,_,_,rfl,rfl,own_mono (own_keep HOS.out.nx hS2 (fun q hq e=>by have:=(HOS.out.nx.lt q hq).1;omega)) (by omega),own_mono (own_keep HOS.out.ot hS2 (fun q hq e=>by have:=(HOS.out.ot.lt q hq).1;omega)) (by omega),?_⟩,(HOS.out.on.trans (hS2.mono (fun _ h=>by omega))).old (fun _ h=>Or.inl h)⟩
      intro r hr
      obtain ⟨b1,b2,b3⟩:=HOS.out.ro r hr
      exact ⟨by omega,(hS2.block _ (Array.getElem?_eq_some_iff.1 b2).1 (by omega)).trans b2,b3⟩
end Go.Proofs.YtchaoonefiamdaaGreatDoor
