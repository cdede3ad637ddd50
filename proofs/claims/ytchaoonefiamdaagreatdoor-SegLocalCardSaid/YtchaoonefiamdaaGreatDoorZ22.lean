/- Class2 -/
import Derived.Test.YtchaoonefiamdaaGreatDoorZ21
namespace Go.Proofs.YtchaoonefiamdaaGreatDoor
open Go.RowKit Go.Maps
set_option linter.unusedVariables false
set_option linter.unusedSimpArgs false
theorem classes_cons (t:Rl.Tk) (ts:List Rl.Tk) (s:Rl.St):Rl.classes (t :: ts) s=if t.bad=true then .error (20,t.at') else if Rl.isNm t=true then
      if (Rl.find s.env t.text).isSome=true then .error (23,t.at') else if s.cls.length=24 then .error (24,t.at') else Rl.classes ts (Rl.addClass s t.text)
    else .ok (t :: ts,s):=rfl
theorem fresh_cons {E:Rl.Env} {t:Rl.Tk} {ts:List Rl.Tk} (hb:¬ t.bad=true) (hn:Rl.isNm t=true):Rl.fresh E (t :: ts)=if (Rl.find E t.text).isSome=true then .error (23,t.at') else .ok (t,ts):=by
  unfold Rl.fresh
  rw [name_cons,if_neg hb,if_pos hn]
theorem Prt.of {w w':World} {rb:Nat} {x:Rd} {s:Rl.St} {C:List Rl.Str} {T:List Int} (h:Prt w rb x s C T) (ho:Only (fun _=>False) w w'):Prt w' rb x s C T:=⟨own_only h.cls ho (fun _ _ h=>h),own_only h.trt ho (fun _ _ h=>h),h.lst.only ho (fun _ _ h=>h),h.mp.only ho (fun h=>h),h.jn,h.af,h.pl,h.op,h.mb,h.l24,h.p200⟩
set_option maxRecDepth 100000 in
set_option maxHeartbeats 8000000 in
theorem class_any (rb:Nat) (S:ByteArray) (x:Rd) (s:Rl.St) (ts:List Rl.Tk) (w:World) (h:In w rb S x ts) (hS:S.size≤4096) (hT:Stt w rb x s) (tx:Rl.Str) (ti:Nat) (hen:s.env.length+ts.length≤5000) :
    Calls Tryz.prog 40 #[.pointer (some ⟨rb,0,none⟩),.agg #[.string (bs tx),.int .i64 (ti:Int)]] w (lineP rb S x.mb w (Rl.classes ts s)):=by
  obtain ⟨i9,h9,h90,h91,h92⟩:=info_parts info9
  obtain ⟨i0,hi,hz0,hz1,hz2⟩:=info_parts info3
  have hlt:=h.lt
  have HI:Hid (In w rb S x ts):=h
  have HS:Hid (Stt w rb x s):=hT
  obtain ⟨F,hF⟩:∃ F,F=Rl.classes ts s:=⟨_,rfl⟩
  have HF:Hid (F=Rl.classes ts s):=hF
  rw [← hF]
  have hmbl:=hT.mb
  clear hF hT h
  go_enter Tryz.func40,Tryz.ntmps40
  go_wp2_with fail
  go_loopg [] ts.length (fun g wr=>∃ (tsr:List Rl.Tk) (xr:Rd) (sr:Rl.St),g=tsr.length∧xr.mb=x.mb∧In wr rb S xr tsr∧Stt wr rb xr sr∧Fr rb x.mb w wr∧sr.env.length+tsr.length≤5000∧Hid (F=Rl.classes tsr sr))
  case atStart=>exact ⟨ts,x,s,rfl,rfl,HI.out.alloc _,HS.out.only ((Only.refl (·=rb) w).alloc _),((Only.refl (·=rb) w).alloc _).fr HI.out.cl _,hen,HF.out⟩
  case round =>
    obtain ⟨tsr,xr,sr,rfl,hmb,hIr,hSr,hOr,henr,hFr⟩:=hrel
    cases tsr with
    | nil=>obtain ⟨i,_,h2,_⟩:=hIr;exact h2.elim
    | cons t tsr =>
      have HMb:Hid (xr.mb=x.mb):=hmb
      have HIr:Hid (In wr rb S xr (t :: tsr)):=hIr
      have HSr:Hid (Stt wr rb xr sr):=hSr
      have HOr:Hid (Fr rb x.mb w wr):=hOr
      have hmr:xr.mb≠rb:=by rw [hmb];omega
      have hFr':=hFr.out
      rw [classes_cons] at hFr'
      simp only [List.length_cons] at henr
      clear hmb hIr hSr hOr hFr
      by_cases hb:t.bad=true
      · have HB:Hid (t.bad=true):=hb
        rw [if_pos hb] at hFr'
        have HE:Hid (F=.error (20,t.at')):=hFr'
        clear hb hFr'
        go_wp2_with (go_at_call 30;refine (next_bad rb S xr t tsr _ HIr.out hS HB.out).mono ?_;rintro e w1 ⟨rfl,ho1⟩)
        refine ⟨rfl,?_⟩
        rw [HE.out]
        exact ⟨rfl,HOr.out.trans (ho1.fr HIr.out.cl _)⟩
      · have HB:Hid (¬ t.bad=true):=hb
        rw [if_neg hb] at hFr'
        by_cases hnm:Rl.isNm t=true
        · have hq:decide (0 < Rl.nml t.text)=true:=hnm
          have HNM:Hid (Rl.isNm t=true):=hnm
          have Hne:Hid (t.text≠[]):=isNm_ne hnm
          rw [if_pos hnm] at hFr'
          have hfr:=fresh_cons (E:=sr.env) (ts:=tsr) hb hnm
          by_cases hfi:(Rl.find sr.env t.text).isSome=true
          · rw [if_pos hfi] at hFr' hfr
            have HE:Hid (F=.error (23,t.at')):=hFr'
            have T1:Hid (Rl.fresh sr.env (t :: tsr)=.error (23,t.at')):=hfr
            clear hb hnm hFr' hfr hfi
            go_wp2_with (first | (go_at_call 30;refine (next_ok rb S xr t tsr _ HIr.out hS HB.out).mono ?_;rintro e w1 ⟨rfl,hR1,hs1,he1,ho1⟩;have HI1:Hid (In w1 rb S xr (t :: tsr)):=⟨_,hR1,hs1,by omega⟩;clear hR1 hs1) | (go_at_call 60;refine (isName_any t.text _ _ (by omega)).mono ?_;rintro e w2 ⟨rfl,ho2⟩;have HI2:Hid (In w2 rb S xr (t :: tsr)):=HI1.out.only ho2 (fun h=>h);have HO2:Hid (Only (·=rb) wr w2):=ho1.trans (ho2.mono (fun _ h=>h.elim))) | (go_at_call 61;have hc:=fresh_any sr.env rb S xr (t :: tsr) _ HI2.out hS (HSr.out.only HO2.out).mp hmr;rw [T1.out] at hc;refine hc.mono ?_;clear hc;rintro e w3 ⟨rfl,ho3⟩))
            refine ⟨rfl,?_⟩
            rw [HE.out]
            exact ⟨rfl,HOr.out.trans ((HO2.out.trans ho3).fr HIr.out.cl _)⟩
          · rw [if_neg hfi] at hFr' hfr
            have T1:Hid (Rl.fresh sr.env (t :: tsr)=.ok (t,tsr)):=hfr
            have HFn:Hid (Rl.find sr.env t.text=none):=(by simpa using hfi:Rl.find sr.env t.text=none)
            obtain ⟨aC,capC,hvC⟩:=own_form HSr.out.cls
            have HvC:Hid (xr.vC=.slice aC sr.cls.length capC):=hvC
            have hc24:=HSr.out.c24
            clear hb hnm hfr hfi hvC
            by_cases h24:sr.cls.length=24
            · rw [if_pos h24] at hFr'
              have HE:Hid (F=.error (24,t.at')):=hFr'
              have q24:((sr.cls.length:Int) == 24)=true:=by simp;omega
              clear hFr' h24
              go_wp2_with (first | (go_at_call 30;refine (next_ok rb S xr t tsr _ HIr.out hS HB.out).mono ?_;rintro e w1 ⟨rfl,hR1,hs1,he1,ho1⟩;have HI1:Hid (In w1 rb S xr (t :: tsr)):=⟨_,hR1,hs1,by omega⟩;clear hR1 hs1) | (go_at_call 60;refine (isName_any t.text _ _ (by omega)).mono ?_;rintro e w2 ⟨rfl,ho2⟩;have HI2:Hid (In w2 rb S xr (t :: tsr)):=HI1.out.only ho2 (fun h=>h);have HO2:Hid (Only (·=rb) wr w2):=ho1.trans (ho2.mono (fun _ h=>h.elim))) | (go_at_call 61;have hc:=fresh_any sr.env rb S xr (t :: tsr) _ HI2.out hS (HSr.out.only HO2.out).mp hmr;rw [T1.out] at hc;refine hc.mono ?_;clear hc;rintro e w3 ⟨rfl,hI3,ho3⟩;obtain ⟨i3,hR3,hs3⟩:=hI3;have d2:w3.cell? ⟨rb,2,none⟩=some (.slice aC sr.cls.length capC):=(by rw [← HvC.out];exact hR3.c2);have hl3:=hR3.lt;clear hR3 hs3) | (go_at_call 31;refine (throw_any 24 t.at' _).mono ?_;rintro e w4 ⟨rfl,rfl⟩))
              refine ⟨rfl,?_⟩
              rw [HE.out]
              exact ⟨rfl,HOr.out.trans (((HO2.out.trans ho3).alloc _).fr HIr.out.cl _)⟩
            · rw [if_neg h24] at hFr'
              have HE:Hid (F=Rl.classes tsr (Rl.addClass sr t.text)):=hFr'
              have q24:((sr.cls.length:Int) == 24)=false:=by simp;omega
              have hcl:sr.cls.length < 24:=by omega
              clear hFr' h24
              go_wp2_with (first | (go_at_call 30;refine (next_ok rb S xr t tsr _ HIr.out hS HB.out).mono ?_;rintro e w1 ⟨rfl,hR1,hs1,he1,ho1⟩;have HI1:Hid (In w1 rb S xr (t :: tsr)):=⟨_,hR1,hs1,by omega⟩;clear hR1 hs1) | (go_at_call 60;refine (isName_any t.text _ _ (by omega)).mono ?_;rintro e w2 ⟨rfl,ho2⟩;have HI2:Hid (In w2 rb S xr (t :: tsr)):=HI1.out.only ho2 (fun h=>h);have HO2:Hid (Only (·=rb) wr w2):=ho1.trans (ho2.mono (fun _ h=>h.elim))) | (go_at_call 61;have hc:=fresh_any sr.env rb S xr (t :: tsr) _ HI2.out hS (HSr.out.only HO2.out).mp hmr;rw [T1.out] at hc;refine hc.mono ?_;clear hc;rintro e w3 ⟨rfl,hI3,ho3⟩;obtain ⟨i3,hR3,hs3⟩:=hI3;have d2:w3.cell? ⟨rb,2,none⟩=some (.slice aC sr.cls.length capC):=(by rw [← HvC.out];exact hR3.c2);have hl3:=hR3.lt;have HR3:Hid (Rdr w3 rb S (i3:Int) xr):=hR3;have Hs3:Hid (Rl.Strm S.data.toList i3 tsr∧i3≤S.size):=hs3;clear hR3 hs3;have HO3:Hid (Only (·=rb) wr w3):=HO2.out.trans ho3))
              have HR0:Hid (Rdr (w3.alloc (.cells #[.string (bs t.text),.int .i64 (t.at':Int)] 79)).drew rb S (i3:Int) xr):=(HR3.out.alloc _).drew
              have d2a:(w3.alloc (.cells #[.string (bs t.text),.int .i64 (t.at':Int)] 79)).drew.cell? ⟨rb,2,none⟩=some (.slice aC sr.cls.length capC):=by rw [← HvC.out];exact HR0.out.c2
              have HPb0:Hid (Pb (w3.alloc (.cells #[.string (bs t.text),.int .i64 (t.at':Int)] 79)).drew w3.heap.size t.text t.at'):=Pb.new w3 _ _
              have HPr0:Hid (Prt (w3.alloc (.cells #[.string (bs t.text),.int .i64 (t.at':Int)] 79)).drew rb xr sr sr.cls sr.treat):=(HSr.out.only ((HO3.out.alloc _).drew)).prt
              have HO0:Hid (Fr rb x.mb w (w3.alloc (.cells #[.string (bs t.text),.int .i64 (t.at':Int)] 79)).drew):=HOr.out.trans (((HO3.out.alloc _).drew).fr HIr.out.cl _)
              go_cut [] from 6 to 55 (fun wq=>∃ W v',W=wq∧Rdr W rb S (i3:Int) { xr with vC:=v' }∧Prt W rb { xr with vC:=v' } sr (sr.cls++[t.text]) sr.treat∧Fr rb x.mb w W∧Pb W w3.heap.size t.text t.at')
              case first =>
                refine wp_region_held_drew (S:=fun w'=>Pb w' w3.heap.size t.text t.at') (by kernel_rfl) HPb0.out (fun hHeld=>?_)
                refine wpAnyH_take (i:=0) (v:=Value.pointer (some ⟨rb,0,none⟩)) rfl (by kernel_rfl) (by kernel_rfl) (by kernel_rfl) (fun _ _ _ h=>h) (Or.inl ⟨by rfl,fun w hSw=>by first | (go_simp;done) | go_simp⟩) (by assumption) ?_
                simp only [Act.put,List.setIfInBounds_toArray,List.set_cons_zero,List.set_cons_succ]
                refine wpAnyH_take (i:=1) (v:=Value.pointer (some ⟨rb,0,none⟩)) rfl (by kernel_rfl) (by kernel_rfl) (by kernel_rfl) (fun _ _ _ h=>h) (Or.inl ⟨by rfl,fun w hSw=>by first | (go_simp;done) | go_simp⟩) (by assumption) ?_
                simp only [Act.put,List.setIfInBounds_toArray,List.set_cons_zero,List.set_cons_succ]
                refine wpAnyH_take (i:=2) (v:=Value.pointer (some ⟨rb,0,none⟩)) rfl (by kernel_rfl) (by kernel_rfl) (by kernel_rfl) (fun _ _ _ h=>h) (Or.inl ⟨by rfl,fun w hSw=>by first | (go_simp;done) | go_simp⟩) (by assumption) ?_
                simp only [Act.put,List.setIfInBounds_toArray,List.set_cons_zero,List.set_cons_succ]
                refine wpAnyH_take (i:=3) (v:=Value.pointer (some ⟨rb,2,none⟩)) rfl (by kernel_rfl) (by kernel_rfl) (by kernel_rfl) (fun _ _ _ h=>h) (Or.inl ⟨by rfl,fun w hSw=>by first | (go_simp;done) | go_simp⟩) (by assumption) ?_
                simp only [Act.put,List.setIfInBounds_toArray,List.set_cons_zero,List.set_cons_succ]
                refine wpAnyH_take (i:=4) (v:=Value.pointer (some ⟨rb,2,none⟩)) rfl (by kernel_rfl) (by kernel_rfl) (by kernel_rfl) (fun _ _ _ h=>h) (Or.inl ⟨by rfl,fun w hSw=>by first | (go_simp;done) | go_simp⟩) (by assumption) ?_
                simp only [Act.put,List.setIfInBounds_toArray,List.set_cons_zero,List.set_cons_succ]
                refine wpAnyH_take (i:=6) (v:=Value.pointer (some ⟨w3.heap.size,0,none⟩)) rfl (by kernel_rfl) (by kernel_rfl) (by kernel_rfl) (fun _ _ _ h=>h) (Or.inl ⟨by rfl,fun w hSw=>by first | (go_simp;done) | go_simp⟩) (by assumption) ?_
                simp only [Act.put,List.setIfInBounds_toArray,List.set_cons_zero,List.set_cons_succ]
                refine wpAnyH_take (i:=7) (v:=.string (bs t.text)) rfl (by kernel_rfl) (by kernel_rfl) (by kernel_rfl) (fun _ _ _ h=>h) (Or.inl ⟨by rfl,fun w hSw=>by have q0:=Pb.c0 hSw;clear hSw;go_simp⟩) (by assumption) ?_
                simp only [Act.put,List.setIfInBounds_toArray,List.set_cons_zero,List.set_cons_succ]
                refine wpAnyH_ready (rs:=[5,8]) (by kernel_rfl) (by simp) ?_
                refine AllReadyH.cons rfl (fun K hK=>?_) (AllReadyH.cons rfl (fun K hK=>?_) AllReadyH.nil)
                · rw [if_pos (by rfl)]
                  go_simp
                  refine hK.out _ _ HPb0.out (fun hHeld2=>?_)
                  clear hK
                  refine wpAnyH_ready (rs:=[8]) (by kernel_rfl) (by simp) ?_
                  refine AllReadyH.cons rfl (fun K hK=>?_) AllReadyH.nil
                  rw [if_pos (by rfl)]
                  go_simp
                  refine (clone_any (bs t.text) _ (by rw [bs_size];exact List.length_pos_iff.2 Hne.out) (by rw [bs_size];omega)).mono ?_
                  rintro e w4 ⟨rfl,ho4⟩
                  have HR4:Hid (Rdr w4 rb S (i3:Int) xr):=HR0.out.only ho4 (fun h=>h)
                  have HP4:Hid (Prt w4 rb xr sr sr.cls sr.treat):=HPr0.out.of ho4
                  have HPb4:Hid (Pb w4 w3.heap.size t.text t.at'):=HPb0.out.only ho4 (fun h=>h)
                  have HO4:Hid (Fr rb x.mb w w4):=HO0.out.trans (ho4.fr0 _ _)
                  have HC4:Hid (w4.ownsRow (rb+1) 9 1 (.slice aC sr.cls.length capC) sr.cls.length (strs sr.cls)):=(by have:=HP4.out.cls;rw [HvC.out] at this;exact this)
                  have hl4:=HR4.out.lt
                  have d2b:w4.cell? ⟨rb,2,none⟩=some (.slice aC sr.cls.length capC):=(by rw [← HvC.out];exact HR4.out.c2)
                  have d2c:(w4.alloc (.cells #[.string (bs t.text)] 9)).cell? ⟨rb,2,none⟩=some (.slice aC sr.cls.length capC):=(by rw [← HvC.out];exact (HR4.out.alloc _).c2)
                  have hl40:=ho4.size
                  simp only [World.drew,World.alloc,Array.size_push] at hl40
                  refine hK.out _ _ HPb4.out (fun hHeld3=>?_)
                  clear hK
                  refine wpAnyH_ready (rs:=[9]) (by kernel_rfl) (by simp) ?_
                  refine AllReadyH.cons rfl (fun K hK=>?_) AllReadyH.nil
                  rw [if_pos (by rfl)]
                  go_simp
                  refine hK.out _ _ (HPb4.out.alloc _) (fun hHeld4=>?_)
                  clear hK
                  refine wpAnyH_ready (rs:=[10]) (by kernel_rfl) (by simp) ?_
                  refine AllReadyH.cons rfl (fun K hK=>?_) AllReadyH.nil
                  refine step_of_wp rfl (wp_append_at _ _ _ 28 rfl (rb+1) 9 i9 (.string ⟨#[]⟩) 1 16 Tryz.underlying28 h9 h90 h91 h92 rfl (by decide) (.slice aC sr.cls.length capC) sr.cls.length (strs sr.cls) rfl (HC4.out.alloc _) ⟨w4.heap.size,0,none⟩ 1 1 [.string (bs t.text)] rfl rfl (one_news9 _ _ _) (fun u hu=>by simp at hu;subst hu;rfl) (by unfold maxLen;omega) (by omega) (by simp;omega) ?_)
                  intro v5 w5 hown5 hg5
                  obtain ⟨gv,capv,rfl,hgb5,hgl5,hgc5,_⟩:=row_form hown5 (by omega)
                  have hg5':(w4.alloc (.cells #[.string (bs t.text)] 9)).grownBy w5 xr.vC.ownBlock:=by rw [HvC.out];exact hg5
                  obtain ⟨hPr5,hLo5,hrb5,hO5⟩:=Prt.addC (c:=t.text) HP4.out ((Only.refl (fun _=>False) _).alloc (.cells #[.string (bs t.text)] 9)) hown5 hg5' HR4.out.cl
                  have hR5:Rdr w5 rb S (i3:Int) xr:=(hrb5 HR4.out.lt).trans HR4.out
                  have e2:w5.cell? ⟨rb,2,none⟩=some (.slice aC sr.cls.length capC):=by rw [← HvC.out];exact hR5.c2
                  have g2:=hR5.fz 2
                  have hPb5:Pb w5 w3.heap.size t.text t.at':=HPb4.out.only hO5 (fun e=>own_notag HP4.out.cls 79 (by decide) _ e _ _ HPb4.out)
                  refine hK.out _ _ hPb5 (fun hHeldA=>?_)
                  clear hK
                  try simp only [Act.put,List.setIfInBounds_toArray,List.set_cons_zero,List.set_cons_succ]
                  refine wpAnyH_take (i:=11) (v:=Value.pointer (some ⟨rb,0,none⟩)) rfl (by kernel_rfl) (by kernel_rfl) (by kernel_rfl) (fun _ _ _ h=>h) (Or.inl ⟨by rfl,fun w hSw=>by first | (go_simp;done) | go_simp⟩) (by assumption) ?_
                  simp only [Act.put,List.setIfInBounds_toArray,List.set_cons_zero,List.set_cons_succ]
                  refine wpAnyH_take (i:=12) (v:=Value.pointer (some ⟨rb,2,none⟩)) rfl (by kernel_rfl) (by kernel_rfl) (by kernel_rfl) (fun _ _ _ h=>h) (Or.inl ⟨by rfl,fun w hSw=>by first | (go_simp;done) | go_simp⟩) (by assumption) ?_
                  simp only [Act.put,List.setIfInBounds_toArray,List.set_cons_zero,List.set_cons_succ]
                  refine wpAnyH_take (i:=13) (v:=Value.pointer (some ⟨rb,2,none⟩)) rfl (by kernel_rfl) (by kernel_rfl) (by kernel_rfl) (fun _ _ _ h=>h) (Or.inl ⟨by rfl,fun w hSw=>by first | (go_simp;done) | go_simp⟩) (by assumption) ?_
                  simp only [Act.put,List.setIfInBounds_toArray,List.set_cons_zero,List.set_cons_succ]
                  refine wpAnyH_ready (rs:=[14]) (by kernel_rfl) (by simp) ?_
                  refine AllReadyH.cons rfl (fun K hK=>?_) AllReadyH.nil
                  rw [if_pos (by rfl)]
                  go_simp
                  refine hK.out _ _ (hPb5.only (P:=(·=rb)) ((Only.refl (·=rb) w5).setCell (p:=⟨rb,2,none⟩) rfl _) (by omega)) (fun hHeldB=>?_)
                  clear hK
                  refine wpAnyH_done (by kernel_rfl) ?_ _
                  clear hHeldA hHeldB
                  go_wp2_with fail
                  go_meet
                  case rel=>exact ⟨_,.slice (some ⟨gv,0,none⟩) (sr.cls.length+1) capv,rfl,hR5.set2 _,hPr5,HO4.out.trans (by rw [← HMb.out];exact hLo5),hPb5.only (P:=(·=rb)) ((Only.refl (·=rb) w5).setCell (p:=⟨rb,2,none⟩) rfl _) (by omega)⟩
                · rw [if_pos (by rfl)]
                  go_simp
                  refine (clone_any (bs t.text) _ (by rw [bs_size];exact List.length_pos_iff.2 Hne.out) (by rw [bs_size];omega)).mono ?_
                  rintro e w4 ⟨rfl,ho4⟩
                  have HR4:Hid (Rdr w4 rb S (i3:Int) xr):=HR0.out.only ho4 (fun h=>h)
                  have HP4:Hid (Prt w4 rb xr sr sr.cls sr.treat):=HPr0.out.of ho4
                  have HPb4:Hid (Pb w4 w3.heap.size t.text t.at'):=HPb0.out.only ho4 (fun h=>h)
                  have HO4:Hid (Fr rb x.mb w w4):=HO0.out.trans (ho4.fr0 _ _)
                  have HC4:Hid (w4.ownsRow (rb+1) 9 1 (.slice aC sr.cls.length capC) sr.cls.length (strs sr.cls)):=(by have:=HP4.out.cls;rw [HvC.out] at this;exact this)
                  have hl4:=HR4.out.lt
                  have d2b:w4.cell? ⟨rb,2,none⟩=some (.slice aC sr.cls.length capC):=(by rw [← HvC.out];exact HR4.out.c2)
                  have d2c:(w4.alloc (.cells #[.string (bs t.text)] 9)).cell? ⟨rb,2,none⟩=some (.slice aC sr.cls.length capC):=(by rw [← HvC.out];exact (HR4.out.alloc _).c2)
                  have hl40:=ho4.size
                  simp only [World.drew,World.alloc,Array.size_push] at hl40
                  refine hK.out _ _ HPb4.out (fun hHeld3=>?_)
                  clear hK
                  refine wpAnyH_ready (rs:=[5,9]) (by kernel_rfl) (by simp) ?_
                  refine AllReadyH.cons rfl (fun K hK=>?_) (AllReadyH.cons rfl (fun K hK=>?_) AllReadyH.nil)
                  · rw [if_pos (by rfl)]
                    go_simp
                    refine hK.out _ _ HPb4.out (fun hHeld4=>?_)
                    clear hK
                    refine wpAnyH_ready (rs:=[9]) (by kernel_rfl) (by simp) ?_
                    refine AllReadyH.cons rfl (fun K hK=>?_) AllReadyH.nil
                    rw [if_pos (by rfl)]
                    go_simp
                    refine hK.out _ _ (HPb4.out.alloc _) (fun hHeld5=>?_)
                    clear hK
                    refine wpAnyH_ready (rs:=[10]) (by kernel_rfl) (by simp) ?_
                    refine AllReadyH.cons rfl (fun K hK=>?_) AllReadyH.nil
                    refine step_of_wp rfl (wp_append_at _ _ _ 28 rfl (rb+1) 9 i9 (.string ⟨#[]⟩) 1 16 Tryz.underlying28 h9 h90 h91 h92 rfl (by decide) (.slice aC sr.cls.length capC) sr.cls.length (strs sr.cls) rfl (HC4.out.alloc _) ⟨w4.heap.size,0,none⟩ 1 1 [.string (bs t.text)] rfl rfl (one_news9 _ _ _) (fun u hu=>by simp at hu;subst hu;rfl) (by unfold maxLen;omega) (by omega) (by simp;omega) ?_)
                    intro v5 w5 hown5 hg5
                    obtain ⟨gv,capv,rfl,hgb5,hgl5,hgc5,_⟩:=row_form hown5 (by omega)
                    have hg5':(w4.alloc (.cells #[.string (bs t.text)] 9)).grownBy w5 xr.vC.ownBlock:=by rw [HvC.out];exact hg5
                    obtain ⟨hPr5,hLo5,hrb5,hO5⟩:=Prt.addC (c:=t.text) HP4.out ((Only.refl (fun _=>False) _).alloc (.cells #[.string (bs t.text)] 9)) hown5 hg5' HR4.out.cl
                    have hR5:Rdr w5 rb S (i3:Int) xr:=(hrb5 HR4.out.lt).trans HR4.out
                    have e2:w5.cell? ⟨rb,2,none⟩=some (.slice aC sr.cls.length capC):=by rw [← HvC.out];exact hR5.c2
                    have g2:=hR5.fz 2
                    have hPb5:Pb w5 w3.heap.size t.text t.at':=HPb4.out.only hO5 (fun e=>own_notag HP4.out.cls 79 (by decide) _ e _ _ HPb4.out)
                    refine hK.out _ _ hPb5 (fun hHeldA=>?_)
                    clear hK
                    try simp only [Act.put,List.setIfInBounds_toArray,List.set_cons_zero,List.set_cons_succ]
                    refine wpAnyH_take (i:=11) (v:=Value.pointer (some ⟨rb,0,none⟩)) rfl (by kernel_rfl) (by kernel_rfl) (by kernel_rfl) (fun _ _ _ h=>h) (Or.inl ⟨by rfl,fun w hSw=>by first | (go_simp;done) | go_simp⟩) (by assumption) ?_
                    simp only [Act.put,List.setIfInBounds_toArray,List.set_cons_zero,List.set_cons_succ]
                    refine wpAnyH_take (i:=12) (v:=Value.pointer (some ⟨rb,2,none⟩)) rfl (by kernel_rfl) (by kernel_rfl) (by kernel_rfl) (fun _ _ _ h=>h) (Or.inl ⟨by rfl,fun w hSw=>by first | (go_simp;done) | go_simp⟩) (by assumption) ?_
                    simp only [Act.put,List.setIfInBounds_toArray,List.set_cons_zero,List.set_cons_succ]
                    refine wpAnyH_take (i:=13) (v:=Value.pointer (some ⟨rb,2,none⟩)) rfl (by kernel_rfl) (by kernel_rfl) (by kernel_rfl) (fun _ _ _ h=>h) (Or.inl ⟨by rfl,fun w hSw=>by first | (go_simp;done) | go_simp⟩) (by assumption) ?_
                    simp only [Act.put,List.setIfInBounds_toArray,List.set_cons_zero,List.set_cons_succ]
                    refine wpAnyH_ready (rs:=[14]) (by kernel_rfl) (by simp) ?_
                    refine AllReadyH.cons rfl (fun K hK=>?_) AllReadyH.nil
                    rw [if_pos (by rfl)]
                    go_simp
                    refine hK.out _ _ (hPb5.only (P:=(·=rb)) ((Only.refl (·=rb) w5).setCell (p:=⟨rb,2,none⟩) rfl _) (by omega)) (fun hHeldB=>?_)
                    clear hK
                    refine wpAnyH_done (by kernel_rfl) ?_ _
                    clear hHeldA hHeldB
                    go_wp2_with fail
                    go_meet
                    case rel=>exact ⟨_,.slice (some ⟨gv,0,none⟩) (sr.cls.length+1) capv,rfl,hR5.set2 _,hPr5,HO4.out.trans (by rw [← HMb.out];exact hLo5),hPb5.only (P:=(·=rb)) ((Only.refl (·=rb) w5).setCell (p:=⟨rb,2,none⟩) rfl _) (by omega)⟩
                  · rw [if_pos (by rfl)]
                    go_simp
                    refine hK.out _ _ (HPb4.out.alloc _) (fun hHeld4=>?_)
                    clear hK
                    refine wpAnyH_ready (rs:=[5]) (by kernel_rfl) (by simp) ?_
                    refine AllReadyH.cons rfl (fun K hK=>?_) AllReadyH.nil
                    rw [if_pos (by rfl)]
                    go_simp
                    refine hK.out _ _ (HPb4.out.alloc _) (fun hHeld5=>?_)
                    clear hK
                    refine wpAnyH_ready (rs:=[10]) (by kernel_rfl) (by simp) ?_
                    refine AllReadyH.cons rfl (fun K hK=>?_) AllReadyH.nil
                    refine step_of_wp rfl (wp_append_at _ _ _ 28 rfl (rb+1) 9 i9 (.string ⟨#[]⟩) 1 16 Tryz.underlying28 h9 h90 h91 h92 rfl (by decide) (.slice aC sr.cls.length capC) sr.cls.length (strs sr.cls) rfl (HC4.out.alloc _) ⟨w4.heap.size,0,none⟩ 1 1 [.string (bs t.text)] rfl rfl (one_news9 _ _ _) (fun u hu=>by simp at hu;subst hu;rfl) (by unfold maxLen;omega) (by omega) (by simp;omega) ?_)
                    intro v5 w5 hown5 hg5
                    obtain ⟨gv,capv,rfl,hgb5,hgl5,hgc5,_⟩:=row_form hown5 (by omega)
                    have hg5':(w4.alloc (.cells #[.string (bs t.text)] 9)).grownBy w5 xr.vC.ownBlock:=by rw [HvC.out];exact hg5
                    obtain ⟨hPr5,hLo5,hrb5,hO5⟩:=Prt.addC (c:=t.text) HP4.out ((Only.refl (fun _=>False) _).alloc (.cells #[.string (bs t.text)] 9)) hown5 hg5' HR4.out.cl
                    have hR5:Rdr w5 rb S (i3:Int) xr:=(hrb5 HR4.out.lt).trans HR4.out
                    have e2:w5.cell? ⟨rb,2,none⟩=some (.slice aC sr.cls.length capC):=by rw [← HvC.out];exact hR5.c2
                    have g2:=hR5.fz 2
                    have hPb5:Pb w5 w3.heap.size t.text t.at':=HPb4.out.only hO5 (fun e=>own_notag HP4.out.cls 79 (by decide) _ e _ _ HPb4.out)
                    refine hK.out _ _ hPb5 (fun hHeldA=>?_)
                    clear hK
                    try simp only [Act.put,List.setIfInBounds_toArray,List.set_cons_zero,List.set_cons_succ]
                    refine wpAnyH_take (i:=11) (v:=Value.pointer (some ⟨rb,0,none⟩)) rfl (by kernel_rfl) (by kernel_rfl) (by kernel_rfl) (fun _ _ _ h=>h) (Or.inl ⟨by rfl,fun w hSw=>by first | (go_simp;done) | go_simp⟩) (by assumption) ?_
                    simp only [Act.put,List.setIfInBounds_toArray,List.set_cons_zero,List.set_cons_succ]
                    refine wpAnyH_take (i:=12) (v:=Value.pointer (some ⟨rb,2,none⟩)) rfl (by kernel_rfl) (by kernel_rfl) (by kernel_rfl) (fun _ _ _ h=>h) (Or.inl ⟨by rfl,fun w hSw=>by first | (go_simp;done) | go_simp⟩) (by assumption) ?_
                    simp only [Act.put,List.setIfInBounds_toArray,List.set_cons_zero,List.set_cons_succ]
                    refine wpAnyH_take (i:=13) (v:=Value.pointer (some ⟨rb,2,none⟩)) rfl (by kernel_rfl) (by kernel_rfl) (by kernel_rfl) (fun _ _ _ h=>h) (Or.inl ⟨by rfl,fun w hSw=>by first | (go_simp;done) | go_simp⟩) (by assumption) ?_
                    simp only [Act.put,List.setIfInBounds_toArray,List.set_cons_zero,List.set_cons_succ]
                    refine wpAnyH_ready (rs:=[14]) (by kernel_rfl) (by simp) ?_
                    refine AllReadyH.cons rfl (fun K hK=>?_) AllReadyH.nil
                    rw [if_pos (by rfl)]
                    go_simp
                    refine hK.out _ _ (hPb5.only (P:=(·=rb)) ((Only.refl (·=rb) w5).setCell (p:=⟨rb,2,none⟩) rfl _) (by omega)) (fun hHeldB=>?_)
                    clear hK
                    refine wpAnyH_done (by kernel_rfl) ?_ _
                    clear hHeldA hHeldB
                    go_wp2_with fail
                    go_meet
                    case rel=>exact ⟨_,.slice (some ⟨gv,0,none⟩) (sr.cls.length+1) capv,rfl,hR5.set2 _,hPr5,HO4.out.trans (by rw [← HMb.out];exact hLo5),hPb5.only (P:=(·=rb)) ((Only.refl (·=rb) w5).setCell (p:=⟨rb,2,none⟩) rfl _) (by omega)⟩
              case rest =>
                obtain ⟨W,v',hW,hR5,hP5,hO5,hPb5⟩:=hcut
                obtain ⟨y,hy⟩:∃ y:Rd,y={ xr with vC:=v' }:=⟨_,rfl⟩
                rw [← hy] at hR5 hP5
                have hym:y.mb=xr.mb:=by rw [hy]
                have HYm:Hid (y.mb=xr.mb):=hym
                have HR5:Hid (Rdr W rb S (i3:Int) y):=hR5
                have HP5:Hid (Prt W rb y sr (sr.cls++[t.text]) sr.treat):=hP5
                have HO5:Hid (Fr rb x.mb w W):=hO5
                have HPb5:Hid (Pb W w3.heap.size t.text t.at'):=hPb5
                obtain ⟨aT,capT,hvT⟩:=own_form hP5.trt
                have HvT:Hid (y.vT=.slice aT sr.treat.length capT):=hvT
                have htl:Hid (sr.treat.length=sr.cls.length):=HSr.out.tlen
                have k5:W.cell? ⟨rb,5,none⟩=some (.slice aT sr.treat.length capT):=by rw [← hvT];exact hR5.c5
                have f5:=hR5.fz 5
                have HT5:Hid (W.ownsRow (rb+1) 3 1 (.slice aT sr.treat.length capT) sr.treat.length (ints sr.treat)):=by rw [← hvT];exact hP5.trt
                have hlW:=hR5.lt
                have hcl2:sr.treat.length < 24:=by rw [htl.out];exact hcl
                rw [← hW]
                clear hy hym hR5 hP5 hO5 hPb5 hvT hW
                go_wp2_with (at_builtin;refine wpList_append_own_at _ rfl _ _ 23 rfl (rb+1) 3 i0 (.int .i64 0) 1 8 Tryz.underlying23 hi hz0 hz1 hz2 rfl (by decide) _ _ _ rfl (HT5.out.alloc (.cells #[.int .i64 (sr.cls.length:Int)] 3)) ⟨W.heap.size,0,none⟩ 1 1 [.int .i64 (sr.cls.length:Int)] rfl rfl (one_news9 _ _ _) (fun u hu=>by simp at hu;subst hu;rfl) (by unfold maxLen;omega) (by omega) (by simp;omega) ?_;intro v6 w6 hown6 hg6 _ _;have hg6':(W.alloc (.cells #[.int .i64 (sr.cls.length:Int)] 3)).grownBy w6 y.vT.ownBlock:=(by rw [HvT.out];exact hg6);obtain ⟨gv,capv,rfl,_,_,_,_⟩:=row_form hown6 (by omega);obtain ⟨hPr6,hLo6,hrb6,hO6⟩:=Prt.addT (c:=(sr.cls.length:Int)) HP5.out ((Only.refl (fun _=>False) _).alloc (.cells #[.int .i64 (sr.cls.length:Int)] 3)) hown6 hg6' HR5.out.cl;have hR6:Rdr w6 rb S (i3:Int) y:=(hrb6 HR5.out.lt).trans HR5.out;have e5:=hR6.c5;have g5:=hR6.fz 5;have hPb6:Pb w6 w3.heap.size t.text t.at':=HPb5.out.only hO6 (fun e=>own_notag HP5.out.trt 79 (by decide) _ e _ _ HPb5.out);have HPr6:Hid (Prt (w6.setCell ⟨rb,5,none⟩ (.slice (some ⟨gv,0,none⟩) (sr.treat.length+1) capv)) rb { y with vT:=.slice (some ⟨gv,0,none⟩) (sr.treat.length+1) capv } sr (sr.cls++[t.text]) (sr.treat++[(sr.cls.length:Int)])):=hPr6;have HLo6:Hid (Fr rb y.mb W (w6.setCell ⟨rb,5,none⟩ (.slice (some ⟨gv,0,none⟩) (sr.treat.length+1) capv))):=hLo6;have HR6:Hid (Rdr (w6.setCell ⟨rb,5,none⟩ (.slice (some ⟨gv,0,none⟩) (sr.treat.length+1) capv)) rb S (i3:Int) { y with vT:=.slice (some ⟨gv,0,none⟩) (sr.treat.length+1) capv }):=hR6.set5 _;have HPb6:Hid (Pb (w6.setCell ⟨rb,5,none⟩ (.slice (some ⟨gv,0,none⟩) (sr.treat.length+1) capv)) w3.heap.size t.text t.at'):=hPb6.only (P:=(·=rb)) ((Only.refl (·=rb) w6).setCell (p:=⟨rb,5,none⟩) rfl _) (by omega);clear hPr6 hLo6 hR6 hPb6 hown6 hg6 hg6' hO6 hrb6)
                obtain ⟨z,hz⟩:∃ z:Rd,z={ y with vT:=.slice (some ⟨gv,0,none⟩) (sr.treat.length+1) capv }:=⟨_,rfl⟩
                obtain ⟨V,hV⟩:∃ V,V=w6.setCell ⟨rb,5,none⟩ (.slice (some ⟨gv,0,none⟩) (sr.treat.length+1) capv):=⟨_,rfl⟩
                rw [← hz,← hV] at HPr6 HR6
                rw [← hV] at HLo6 HPb6 ⊢
                have hzm:z.mb=y.mb:=by rw [hz]
                have HZm:Hid (z.mb=x.mb):=(by rw [hzm,HYm.out,HMb.out]:z.mb=x.mb)
                have m7:V.drew.cell? ⟨rb,7,none⟩=some (.map (some z.mb))∧Pb V.drew w3.heap.size t.text t.at':=⟨HR6.out.c7,HPb6.out⟩
                clear hz hV hzm e5 g5
                refine wp_region_held_drew (S:=fun w'=>w'.cell? ⟨rb,7,none⟩=some (.map (some z.mb))∧Pb w' w3.heap.size t.text t.at') (by kernel_rfl) m7 (fun hHeld=>?_)
                refine wpAnyH_take (i:=0) (oi:={ dst:=some 48,op:=_,type:=_,pos:=_,after:=_,guard:=_ }) (v:=Value.pointer (some ⟨rb,0,none⟩)) rfl (by kernel_rfl) (by kernel_rfl) (by kernel_rfl) (fun _ _ _ h=>h) (Or.inl ⟨by rfl,fun w hSw=>by first | (go_simp;done) | go_simp⟩) (by assumption) ?_
                simp only [Act.put,List.setIfInBounds_toArray,List.set_cons_zero,List.set_cons_succ]
                refine wpAnyH_take (i:=1) (oi:={ dst:=some 49,op:=_,type:=_,pos:=_,after:=_,guard:=_ }) (v:=Value.pointer (some ⟨rb,0,none⟩)) rfl (by kernel_rfl) (by kernel_rfl) (by kernel_rfl) (fun _ _ _ h=>h) (Or.inl ⟨by rfl,fun w hSw=>by first | (go_simp;done) | go_simp⟩) (by assumption) ?_
                simp only [Act.put,List.setIfInBounds_toArray,List.set_cons_zero,List.set_cons_succ]
                refine wpAnyH_take (i:=2) (oi:={ dst:=some 50,op:=_,type:=_,pos:=_,after:=_,guard:=_ }) (v:=Value.pointer (some ⟨rb,7,none⟩)) rfl (by kernel_rfl) (by kernel_rfl) (by kernel_rfl) (fun _ _ _ h=>h) (Or.inl ⟨by rfl,fun w hSw=>by first | (go_simp;done) | go_simp⟩) (by assumption) ?_
                simp only [Act.put,List.setIfInBounds_toArray,List.set_cons_zero,List.set_cons_succ]
                refine wpAnyH_take (i:=3) (oi:={ dst:=some 51,op:=_,type:=_,pos:=_,after:=_,guard:=_ }) (v:=Value.map (some z.mb)) rfl (by kernel_rfl) (by kernel_rfl) (by kernel_rfl) (fun _ _ _ h=>h) (Or.inl ⟨by rfl,fun w hSw=>by obtain ⟨q7,h2⟩:=hSw;have q0:=h2.c0;clear h2;first | (go_simp;done) | go_simp⟩) (by assumption) ?_
                simp only [Act.put,List.setIfInBounds_toArray,List.set_cons_zero,List.set_cons_succ]
                refine wpAnyH_take (i:=4) (oi:={ dst:=some 52,op:=_,type:=_,pos:=_,after:=_,guard:=_ }) (v:=Value.pointer (some ⟨w3.heap.size,0,none⟩)) rfl (by kernel_rfl) (by kernel_rfl) (by kernel_rfl) (fun _ _ _ h=>h) (Or.inl ⟨by rfl,fun w hSw=>by first | (go_simp;done) | go_simp⟩) (by assumption) ?_
                simp only [Act.put,List.setIfInBounds_toArray,List.set_cons_zero,List.set_cons_succ]
                refine wpAnyH_take (i:=5) (oi:={ dst:=some 53,op:=_,type:=_,pos:=_,after:=_,guard:=_ }) (v:=Value.string (bs t.text)) rfl (by kernel_rfl) (by kernel_rfl) (by kernel_rfl) (fun _ _ _ h=>h) (Or.inl ⟨by rfl,fun w hSw=>by obtain ⟨q7,h2⟩:=hSw;have q0:=h2.c0;clear h2;first | (go_simp;done) | go_simp⟩) (by assumption) ?_
                simp only [Act.put,List.setIfInBounds_toArray,List.set_cons_zero,List.set_cons_succ]
                refine wpAnyH_take (i:=6) (oi:={ dst:=some 54,op:=_,type:=_,pos:=_,after:=_,guard:=_ }) (v:=Value.int .i64 (sr.cls.length:Int)) rfl (by kernel_rfl) (by kernel_rfl) (by kernel_rfl) (fun _ _ _ h=>h) (Or.inl ⟨by rfl,fun w hSw=>by first | (go_simp;done) | go_simp⟩) (by assumption) ?_
                simp only [Act.put,List.setIfInBounds_toArray,List.set_cons_zero,List.set_cons_succ]
                obtain ⟨BB,hBB⟩:∃ BB:Int,BB=2 ^ sr.cls.length:=⟨_,rfl⟩
                refine wpAnyH_take (i:=7) (oi:={ dst:=some 55,op:=_,type:=_,pos:=_,after:=_,guard:=_ }) (v:=Value.int .u32 BB) rfl (by kernel_rfl) (by kernel_rfl) (by kernel_rfl) (fun _ _ _ h=>h) (Or.inl ⟨by rfl,fun w hSw=>by rw [hBB];refine shl_op (t:=.tmp 54) (n:=sr.cls.length) rfl (by simp [Act.eval]) (by omega) w⟩) (by assumption) ?_
                simp only [Act.put,List.setIfInBounds_toArray,List.set_cons_zero,List.set_cons_succ]
                refine wpAnyH_ready (rs:=[8]) (by kernel_rfl) (by simp) ?_
                obtain ⟨D,hown,hism,hD⟩:=HPr6.out.mp
                have hbr:=pow_range sr.cls.length (Nat.le_of_lt hcl)
                rw [← hBB] at hbr
                have htl2:t.text.length≤4096:=by omega
                have hzrb:z.mb≠rb:=by rw [HZm.out];omega
                have hzp:¬ w3.heap.size=z.mb:=by rw [HZm.out];omega
                have henl:sr.env.length < maxLen:=by unfold maxLen;omega
                have hval:=plainElem_int (H:=Unit) Tryz.underlying42 (wf_u32 hbr)
                refine ready_put (o:=?oo) ?h1 ?h2 ?h3 (.tmp 51) (.tmp 53) (.tmp 55) 54 ?h4 9 42 law9 Tryz.underlying54 (plainElem Tryz.prog 42) z.mb sr.env.length D ?h5 hown henl (.string (bs t.text)) (.int .u32 BB) (.string t.text) ?h6 ?h7 (key9 t.text htl2) (.lit (.int .u32 BB)) [] hval ?h8
                case h1=>exact (Option.some_get (by kernel_rfl)).symm
                case h2=>kernel_rfl
                case h3=>kernel_rfl
                case h4=>kernel_rfl
                case h5=>simp [Act.eval]
                case h6=>simp [Act.eval]
                case h7=>simp [Act.eval]
                case h8 =>
                  intro w7 hown7 hg7
                  rw [hBB] at hown7
                  have hO7:Only (·=z.mb) V w7:=⟨hg7.os,hg7.tape,hg7.output,hg7.size,fun g hg hn=>hg7.block g hg (fun e=>hn (by injection e))⟩
                  refine ⟨⟨(HR6.out.only hO7 (fun e=>hzrb e.symm)).c7,HPb6.out.only hO7 hzp⟩,?_⟩
                  refine wpAnyH_done (by kernel_rfl) ?_ _
                  clear hHeld
                  go_wp2_with fail
                  go_roundg tsr.length
                  case measure=>simp
                  case rel =>
                    have hSt:=Prt.addN HPr6.out hO7 (Mp.put (w:=V) hism hD hown7 HFn.out) hcl htl.out
                    refine ⟨tsr,z,Rl.addClass sr t.text,rfl,HZm.out,⟨i3,HR6.out.only hO7 (fun e=>hzrb e.symm),Hs3.out⟩,hSt,(HO5.out.trans (by rw [← HMb.out,← HYm.out];exact HLo6.out)).trans (by rw [← HZm.out];exact hO7.frMb),by unfold Rl.addClass;simp;omega,HE.out⟩
        · have hq:decide (0 < Rl.nml t.text)=false:=by simpa [isNm_iff] using hnm
          rw [if_neg hnm] at hFr'
          have HE:Hid (F=.ok (t :: tsr,sr)):=hFr'
          clear hb hnm hFr'
          go_wp2_with (first | (go_at_call 30;refine (next_ok rb S xr t tsr _ HIr.out hS HB.out).mono ?_;rintro e w1 ⟨rfl,hR1,hs1,he1,ho1⟩;have HI1:Hid (In w1 rb S xr (t :: tsr)):=⟨_,hR1,hs1,by omega⟩;clear hR1 hs1) | (go_at_call 60;refine (isName_any t.text _ _ (by omega)).mono ?_;rintro e w2 ⟨rfl,ho2⟩;have HI2:Hid (In w2 rb S xr (t :: tsr)):=HI1.out.only ho2 (fun h=>h);have HO2:Hid (Only (·=rb) wr w2):=ho1.trans (ho2.mono (fun _ h=>h.elim))))
          go_end0
          rw [HE.out]
          exact ⟨rfl,xr,HMb.out,HI2.out,HSr.out.only HO2.out,HOr.out.trans (HO2.out.fr HIr.out.cl _)⟩
end Go.Proofs.YtchaoonefiamdaaGreatDoor
