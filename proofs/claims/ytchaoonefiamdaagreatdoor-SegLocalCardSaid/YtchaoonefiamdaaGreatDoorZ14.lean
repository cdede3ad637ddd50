/- Lines2 -/
import Derived.Test.YtchaoonefiamdaaGreatDoorZ13
namespace Go.Proofs.YtchaoonefiamdaaGreatDoor
open Go.RowKit Go.Maps
set_option linter.unusedVariables false
set_option linter.unusedSimpArgs false
theorem own_onlyT {w w':World} {base e size n:Nat} {v:Value} {xs:List Value} {P:Nat→Prop} (h:w.ownsRow base e size v n xs) (ho:Only P w w') (hP:∀ g,P g→∀ cur z,w.heap[g]?≠some (.cells cur e z)):w'.ownsRow base e size v n xs:=by
  obtain ⟨hl,h | ⟨g,cap,cur,hv,hb,hh,h1⟩⟩:=h
  · exact ⟨hl,Or.inl h⟩
  · exact ⟨hl,Or.inr ⟨g,cap,cur,hv,hb,(ho.block g (Array.getElem?_eq_some_iff.1 hh).1 (fun hp=>hP g hp _ _ hh)).trans hh,h1⟩⟩
theorem Rls.onlyT {w w':World} {B:Nat} {v:Value} {l:List Rl.Rule} {P:Nat→Prop} (h:Rls w B v l) (ho:Only P w w') (h52:∀ g,P g→∀ cur z,w.heap[g]?≠some (.cells cur 90 z)) (h50:∀ g,P g→∀ cur z,w.heap[g]?≠some (.cells cur 88 z)):Rls w' B v l:=by
  obtain ⟨xs,h1,h2⟩:=h
  exact ⟨xs,own_onlyT h1 ho h52,h2.keepT (fun b hb hl hc=>⟨hb,ho.block b hl (fun hp=>by obtain ⟨cs,z,hc⟩:=hc;exact h50 b hp _ _ hc)⟩)⟩
theorem own_set {w:World} {base e n g cap k:Nat} {xs:List Value} (h:w.ownsRow base e 1 (.slice (some ⟨g,0,none⟩) n cap) n xs) (hk:k < n) (u:Value):(w.setCell ⟨g,k,none⟩ u).ownsRow base e 1 (.slice (some ⟨g,0,none⟩) n cap) n (xs.set k u):=by
  obtain ⟨hl,⟨hv,_⟩ | ⟨g',cap',cur,hv,hb,hh,h1,h2,h3,h4⟩⟩:=h
  · cases hv
  · injection hv with e1 _ e2
    injection e1 with e1
    injection e1 with e1
    subst e1 e2
    refine ⟨by rw [List.length_set];exact hl,Or.inr ⟨g,cap,_,rfl,hb,heap_setCell_at hh u,h1,h2,by simpa using h3,?_⟩⟩
    rw [← h4]
    apply List.ext_getElem?
    intro j
    rw [List.getElem?_take,List.getElem?_set]
    simp only [Array.toList_setIfInBounds,List.getElem?_set,List.getElem?_take,Array.length_toList,List.length_take]
    by_cases e:k=j
    · subst e
      have:k < cur.size:=by omega
      simp [hk,this]
      omega
    · simp [e]
theorem own_tag {w:World} {base e size n:Nat} {v:Value} {xs:List Value} (h:w.ownsRow base e size v n xs) (hn:0 < n):∃ g cap cur,v=.slice (some ⟨g,0,none⟩) n cap∧base≤g∧w.heap[g]?=some (.cells cur e (0,0)):=by
  obtain ⟨hl,⟨hv,h0⟩ | ⟨g',cap',cur,hv,hb,hh,h1,h2,h3,h4⟩⟩:=h
  · omega
  · exact ⟨g',cap',cur,hv,hb,hh⟩
theorem ints_set (l:List Int) (k:Nat) (m:Int):ints (l.set k m)=(ints l).set k (.int .i64 m):=by unfold ints;rw [List.map_set]
theorem own_cell {w:World} {base e n g cap k:Nat} {xs:List Value} (h:w.ownsRow base e 1 (.slice (some ⟨g,0,none⟩) n cap) n xs) (hk:k < n):∃ old,w.cell? ⟨g,k,none⟩=some old∧w.frozen? ⟨g,k,none⟩=false:=by
  obtain ⟨hl,⟨hv,_⟩ | ⟨g',cap',cur,hv,hb,hh,h1,h2,h3,h4⟩⟩:=h
  · cases hv
  · injection hv with e1 _ e2
    injection e1 with e1
    injection e1 with e1
    subst e1 e2
    have hc:k < cur.size:=by omega
    exact ⟨cur[k],(cell_of_row _ _ _ _ _ _ hh).trans (Array.getElem?_eq_getElem hc),by simp [World.frozen?,hh]⟩
set_option maxRecDepth 100000 in
set_option maxHeartbeats 4000000 in
theorem treat_any (rb:Nat) (S:ByteArray) (x:Rd) (s:Rl.St) (p:Value) (ts:List Rl.Tk) (w:World) (h:In w rb S x ts) (hS:S.size≤4096) (hT:Stt w rb x s) (tx:Rl.Str) (ti:Int) (hp:p=.agg #[.string (bs tx),.int .i64 ti]) :
    Calls Tryz.prog 43 #[.pointer (some ⟨rb,0,none⟩),p] w (lineP rb S x.mb w (Rl.treat' ts s)):=by
  subst hp
  have hlt:=h.lt
  have HI:Hid (In w rb S x ts):=h
  have HS:Hid (Stt w rb x s):=hT
  have hmb:x.mb≠rb:=by have:=hT.mb;omega
  obtain ⟨F,hF⟩:∃ F,F=Rl.treat' ts s:=⟨_,rfl⟩
  have HF:Hid (F=Rl.treat' ts s):=hF
  rw [← hF]
  clear hT hF h
  cases hn1:Rl.placeOf s.cls ts with
  | error f =>
    have T1:Hid (Rl.placeOf s.cls ts=.error f):=hn1
    have HE:Hid (F=.error f):=(by rw [HF.out];unfold Rl.treat';simp only [hn1]:F=.error f)
    clear hn1
    go_enter Tryz.func43,Tryz.ntmps43
    go_wp2_with (go_at_call 64;have hc:=place_any s.cls rb S x ts _ (HI.out.alloc (.cells #[.string (bs tx),.int .i64 ti] 79)) hS (HS.out.cls.alloc _) HS.out.c24;rw [T1.out] at hc;refine hc.mono ?_;clear hc;rintro e w1 ⟨rfl,ho1⟩)
    refine ⟨rfl,?_⟩
    rw [HE.out]
    exact ⟨rfl,(((Only.refl (·=rb) w).alloc _).trans ho1).fr HI.out.cl _⟩
  | ok r =>
    obtain ⟨k,ts1⟩:=r
    have T1:Hid (Rl.placeOf s.cls ts=.ok (k,ts1)):=hn1
    have hkl:=place_lt hn1
    clear hn1
    cases hw:Rl.want 61 ts1 with
    | error f =>
      have T2:Hid (Rl.want 61 ts1=.error f):=hw
      have HE:Hid (F=.error f):=(by rw [HF.out];unfold Rl.treat';simp only [T1.out,hw]:F=.error f)
      clear hw
      go_enter Tryz.func43,Tryz.ntmps43
      go_wp2_with (first | (go_at_call 64;have hc:=place_any s.cls rb S x ts _ (HI.out.alloc (.cells #[.string (bs tx),.int .i64 ti] 79)) hS (HS.out.cls.alloc _) HS.out.c24;rw [T1.out] at hc;refine hc.mono ?_;clear hc;rintro e w1 ⟨rfl,hI1,ho1⟩;have HI1:Hid (In w1 rb S x ts1):=hI1;clear hI1) | (go_at_call 33;have hc:=want_any 61 rb S x ts1 _ HI1.out hS;rw [T2.out] at hc;refine hc.mono ?_;clear hc;rintro e w2 ⟨rfl,ho2⟩))
      refine ⟨rfl,?_⟩
      rw [HE.out]
      exact ⟨rfl,((((Only.refl (·=rb) w).alloc _).trans ho1).trans ho2).fr HI.out.cl _⟩
    | ok ts2 =>
      have T2:Hid (Rl.want 61 ts1=.ok ts2):=hw
      clear hw
      obtain ⟨vT,hvT⟩:∃ vT,vT=x.vT:=⟨_,rfl⟩
      have HV:Hid (vT=x.vT):=hvT
      cases hn2:Rl.placeOf s.cls ts2 with
      | error f =>
        have T3:Hid (Rl.placeOf s.cls ts2=.error f):=hn2
        have HE:Hid (F=.error f):=(by rw [HF.out];unfold Rl.treat';simp only [T1.out,T2.out,hn2]:F=.error f)
        clear hn2 hvT
        go_enter Tryz.func43,Tryz.ntmps43
        go_wp2_with (first | (go_at_call 64;have hc:=place_any s.cls rb S x ts _ (HI.out.alloc (.cells #[.string (bs tx),.int .i64 ti] 79)) hS (HS.out.cls.alloc _) HS.out.c24;rw [T1.out] at hc;refine hc.mono ?_;clear hc;rintro e w1 ⟨rfl,hI1,ho1⟩;have HI1:Hid (In w1 rb S x ts1):=hI1;clear hI1) | (go_at_call 33;have hc:=want_any 61 rb S x ts1 _ HI1.out hS;rw [T2.out] at hc;refine hc.mono ?_;clear hc;rintro e w2 ⟨rfl,hI2,ho2⟩;have HI2:Hid (In w2 rb S x ts2):=hI2;obtain ⟨i2,hR2,_,_⟩:=hI2;have d5:w2.cell? ⟨rb,5,none⟩=some vT:=(by rw [HV.out];exact hR2.c5);clear hR2;have HO2:Hid (Only (·=rb) w w2):=(((Only.refl (·=rb) w).alloc _).trans ho1).trans ho2;have HS2:Hid (Stt w2 rb x s):=HS.out.only HO2.out))
        have d5':w2.drew.cell? ⟨rb,5,none⟩=some vT:=d5
        refine wp_region_held_drew (S:=fun w'=>w'.cell? ⟨rb,5,none⟩=some vT) (by kernel_rfl) d5' (fun hHeld=>?_)
        refine wpAnyH_take (i:=0) (v:=Value.pointer (some ⟨rb,0,none⟩)) rfl (by kernel_rfl) (by kernel_rfl) (by kernel_rfl) (fun _ _ _ h=>h) (Or.inl ⟨by rfl,fun w hSw=>by first | (go_simp;done) | go_simp⟩) (by assumption) ?_
        simp only [Act.put,List.setIfInBounds_toArray,List.set_cons_zero,List.set_cons_succ]
        refine wpAnyH_take (i:=1) (v:=Value.pointer (some ⟨rb,0,none⟩)) rfl (by kernel_rfl) (by kernel_rfl) (by kernel_rfl) (fun _ _ _ h=>h) (Or.inl ⟨by rfl,fun w hSw=>by first | (go_simp;done) | go_simp⟩) (by assumption) ?_
        simp only [Act.put,List.setIfInBounds_toArray,List.set_cons_zero,List.set_cons_succ]
        refine wpAnyH_take (i:=2) (v:=Value.pointer (some ⟨rb,2,none⟩)) rfl (by kernel_rfl) (by kernel_rfl) (by kernel_rfl) (fun _ _ _ h=>h) (Or.inl ⟨by rfl,fun w hSw=>by first | (go_simp;done) | go_simp⟩) (by assumption) ?_
        simp only [Act.put,List.setIfInBounds_toArray,List.set_cons_zero,List.set_cons_succ]
        refine wpAnyH_take (i:=3) (v:=Value.pointer (some ⟨rb,5,none⟩)) rfl (by kernel_rfl) (by kernel_rfl) (by kernel_rfl) (fun _ _ _ h=>h) (Or.inl ⟨by rfl,fun w hSw=>by first | (go_simp;done) | go_simp⟩) (by assumption) ?_
        simp only [Act.put,List.setIfInBounds_toArray,List.set_cons_zero,List.set_cons_succ]
        refine wpAnyH_take (i:=4) (v:=vT) rfl (by kernel_rfl) (by kernel_rfl) (by kernel_rfl) (fun _ _ _ h=>h) (Or.inl ⟨by rfl,fun w hSw=>by first | (go_simp;done) | go_simp⟩) (by assumption) ?_
        simp only [Act.put,List.setIfInBounds_toArray,List.set_cons_zero,List.set_cons_succ]
        refine wpAnyH_take (i:=5) (v:=Value.int .i64 (k:Int)) rfl (by kernel_rfl) (by kernel_rfl) (by kernel_rfl) (fun _ _ _ h=>h) (Or.inl ⟨by rfl,fun w hSw=>by first | (go_simp;done) | go_simp⟩) (by assumption) ?_
        simp only [Act.put,List.setIfInBounds_toArray,List.set_cons_zero,List.set_cons_succ]
        refine wpAnyH_take (i:=6) (v:=Value.pointer (some ⟨rb,0,none⟩)) rfl (by kernel_rfl) (by kernel_rfl) (by kernel_rfl) (fun _ _ _ h=>h) (Or.inl ⟨by rfl,fun w hSw=>by first | (go_simp;done) | go_simp⟩) (by assumption) ?_
        simp only [Act.put,List.setIfInBounds_toArray,List.set_cons_zero,List.set_cons_succ]
        refine wpAnyH_ready (rs:=[7]) (by kernel_rfl) (by simp) ?_
        refine AllReadyH.cons rfl (fun K hK=>?_) AllReadyH.nil
        rw [if_pos (by rfl)]
        go_simp
        have hc:=place_any s.cls rb S x ts2 _ HI2.out.drew hS (own_drewN HS2.out.cls 1) HS2.out.c24
        rw [T3.out] at hc
        refine hc.mono ?_
        clear hc
        rintro e w3 ⟨rfl,ho3⟩
        refine ⟨rfl,?_⟩
        rw [HE.out]
        exact ⟨rfl,(HO2.out.drew.trans ho3).fr HI.out.cl _⟩
      | ok r =>
        obtain ⟨m,ts3⟩:=r
        have T3:Hid (Rl.placeOf s.cls ts2=.ok (m,ts3)):=hn2
        have HE:Hid (F=.ok (ts3,{ s with treat:=s.treat.set k (m:Int) })):=(by rw [HF.out];unfold Rl.treat';simp only [T1.out,T2.out,hn2]:F=.ok (ts3,{ s with treat:=s.treat.set k (m:Int) }))
        obtain ⟨g,cap,cur,hvg,hgb,_⟩:=own_tag HS.out.trt (by omega)
        have HVg:Hid (x.vT=.slice (some ⟨g,0,none⟩) s.cls.length cap):=hvg
        have hkI:(k:Int) < (s.cls.length:Int):=by omega
        clear hn2 hvT hvg
        go_enter Tryz.func43,Tryz.ntmps43
        go_wp2_with (first | (go_at_call 64;have hc:=place_any s.cls rb S x ts _ (HI.out.alloc (.cells #[.string (bs tx),.int .i64 ti] 79)) hS (HS.out.cls.alloc _) HS.out.c24;rw [T1.out] at hc;refine hc.mono ?_;clear hc;rintro e w1 ⟨rfl,hI1,ho1⟩;have HI1:Hid (In w1 rb S x ts1):=hI1;clear hI1) | (go_at_call 33;have hc:=want_any 61 rb S x ts1 _ HI1.out hS;rw [T2.out] at hc;refine hc.mono ?_;clear hc;rintro e w2 ⟨rfl,hI2,ho2⟩;have HI2:Hid (In w2 rb S x ts2):=hI2;obtain ⟨i2,hR2,_,_⟩:=hI2;have d5:w2.cell? ⟨rb,5,none⟩=some (.slice (some ⟨g,0,none⟩) s.cls.length cap):=(by rw [← HVg.out];exact hR2.c5);clear hR2;have HO2:Hid (Only (·=rb) w w2):=(((Only.refl (·=rb) w).alloc _).trans ho1).trans ho2;have HS2:Hid (Stt w2 rb x s):=HS.out.only HO2.out))
        go_region_with (first | (go_at_call 64;have hc:=place_any s.cls rb S x ts2 _ HI2.out.drew hS (own_drewN HS2.out.cls 1) HS2.out.c24;rw [T3.out] at hc;refine hc.mono ?_;clear hc;rintro e w3 ⟨rfl,hI3,ho3⟩;have HI3:Hid (In w3 rb S x ts3):=hI3;obtain ⟨i3,hR3,_,_⟩:=hI3;have e5:w3.cell? ⟨rb,5,none⟩=some (.slice (some ⟨g,0,none⟩) s.cls.length cap):=(by rw [← HVg.out];exact hR3.c5);clear hR3;have HO3:Hid (Only (·=rb) w w3):=HO2.out.drew.trans ho3;have HS3:Hid (Stt w3 rb x s):=HS.out.only HO3.out;clear ho3;have hown:=HS3.out.trt;rw [HVg.out] at hown;have Hown:Hid (w3.ownsRow (rb+1) 3 1 (.slice (some ⟨g,0,none⟩) s.cls.length cap) s.cls.length (ints s.treat)):=hown;clear hown;have hcell:∃ old,w3.cell? ⟨g,k,none⟩=some old∧w3.frozen? ⟨g,k,none⟩=false:=own_cell Hown.out hkl;obtain ⟨old,k1,k2⟩:=hcell))
        all_goals
          go_wp2_with fail
          go_end0
          rw [HE.out]
          obtain ⟨g',cap',cur',hv',_,hh'⟩:=own_tag Hown.out (by omega)
          have eg:g=g':=by injection hv' with e1;injection e1 with e1;injection e1
          subst eg
          have hoS:Only (·=g) w3 (w3.setCell ⟨g,k,none⟩ (.int .i64 (m:Int))):=(Only.refl (·=g) w3).setCell (p:=⟨g,k,none⟩) rfl _
          have htag:∀ e',e'≠3→∀ q,q=g→∀ cur z,w3.heap[q]?≠some (.cells cur e' z):=fun e' he q hq cur z hh=>by subst hq;rw [hh'] at hh;injection hh with hh;injection hh with _ h2;exact he h2.symm
          have hS3:=HS3.out
          refine ⟨rfl,x,rfl,HI3.out.setOther (by show g≠rb;omega) _,?_,(HO3.out.fr HI.out.cl _).trans (hoS.frAt (by omega) ⟨_,_,_,hh'⟩ _)⟩
          exact ⟨own_onlyT hS3.cls hoS (htag 9 (by decide)),by rw [HVg.out,ints_set];exact own_set Hown.out hkl _,hS3.lst.onlyT hoS (htag 90 (by decide)) (htag 88 (by decide)),hS3.mp.only hoS (by have:=hS3.mb;omega),hS3.jn,hS3.af,hS3.pl,hS3.op,hS3.mb,hS3.c24,hS3.l24,hS3.p200⟩
theorem fresh_none {E:Rl.Env} {ts ts1:List Rl.Tk} {t:Rl.Tk} (h:Rl.fresh E ts=.ok (t,ts1)):Rl.name ts=.ok (t,ts1)∧Rl.find E t.text=none:=by
  unfold Rl.fresh at h
  split at h
  · cases h
  · rename_i hn
    split at h
    · cases h
    · rename_i hf
      cases h
      refine ⟨hn,?_⟩
      cases hx:Rl.find E t.text with
      | none=>rfl
      | some b=>rw [hx] at hf;exact absurd rfl hf
set_option maxRecDepth 100000 in
set_option maxHeartbeats 4000000 in
theorem set_any (rb:Nat) (S:ByteArray) (x:Rd) (s:Rl.St) (p:Value) (ts:List Rl.Tk) (w:World) (h:In w rb S x ts) (hS:S.size≤4096) (hT:Stt w rb x s) (tx:Rl.Str) (ti:Int) (hp:p=.agg #[.string (bs tx),.int .i64 ti]) (hen:s.env.length≤5000) :
    Calls Tryz.prog 41 #[.pointer (some ⟨rb,0,none⟩),p] w (lineP rb S x.mb w (Rl.set' ts s)):=by
  subst hp
  have hlt:=h.lt
  have HI:Hid (In w rb S x ts):=h
  have HS:Hid (Stt w rb x s):=hT
  have hmb:x.mb≠rb:=by have:=hT.mb;omega
  have hmbl:=hT.mb
  obtain ⟨F,hF⟩:∃ F,F=Rl.set' ts s:=⟨_,rfl⟩
  have HF:Hid (F=Rl.set' ts s):=hF
  rw [← hF]
  clear hT hF
  cases hn1:Rl.fresh s.env ts with
  | error f =>
    have T1:Hid (Rl.fresh s.env ts=.error f):=hn1
    have HE:Hid (F=.error f):=(by rw [HF.out];unfold Rl.set';simp only [hn1]:F=.error f)
    clear hn1 h
    go_enter Tryz.func41,Tryz.ntmps41
    go_wp2_with (go_at_call 61;have hc:=fresh_any s.env rb S x ts _ (HI.out.alloc (.cells #[.string (bs tx),.int .i64 ti] 79)) hS (HS.out.mp.alloc _) hmb;rw [T1.out] at hc;refine hc.mono ?_;clear hc;rintro e w1 ⟨rfl,ho1⟩)
    refine ⟨rfl,?_⟩
    rw [HE.out]
    exact ⟨rfl,(((Only.refl (·=rb) w).alloc _).trans ho1).fr HI.out.cl _⟩
  | ok r =>
    obtain ⟨t,ts1⟩:=r
    have T1:Hid (Rl.fresh s.env ts=.ok (t,ts1)):=hn1
    obtain ⟨hnm,hfn⟩:=fresh_none hn1
    have HFn:Hid (Rl.find s.env t.text=none):=hfn
    have htl:t.text.length≤4096:=by
      obtain ⟨i,_,hs,hi⟩:=h
      have:=(name_len hs hnm).2
      rw [← Lib.size_eq] at this
      omega
    clear hn1 hnm hfn h
    cases hw:Rl.want 61 ts1 with
    | error f =>
      have T2:Hid (Rl.want 61 ts1=.error f):=hw
      have HE:Hid (F=.error f):=(by rw [HF.out];unfold Rl.set';simp only [T1.out,hw]:F=.error f)
      clear hw
      go_enter Tryz.func41,Tryz.ntmps41
      go_wp2_with (first | (go_at_call 61;have hc:=fresh_any s.env rb S x ts _ (HI.out.alloc (.cells #[.string (bs tx),.int .i64 ti] 79)) hS (HS.out.mp.alloc _) hmb;rw [T1.out] at hc;refine hc.mono ?_;clear hc;rintro e w1 ⟨rfl,hI1,ho1⟩;have HI1:Hid (In w1 rb S x ts1):=hI1;clear hI1) | (go_at_call 33;have hc:=want_any 61 rb S x ts1 _ (HI1.out.alloc (.cells #[.string (bs t.text),.int .i64 (t.at':Int)] 79)) hS;rw [T2.out] at hc;refine hc.mono ?_;clear hc;rintro e w2 ⟨rfl,ho2⟩))
      refine ⟨rfl,?_⟩
      rw [HE.out]
      exact ⟨rfl,(((((Only.refl (·=rb) w).alloc _).trans ho1).alloc _).trans ho2).fr HI.out.cl _⟩
    | ok ts2 =>
      have T2:Hid (Rl.want 61 ts1=.ok ts2):=hw
      clear hw
      cases hn2:Rl.names s.env ts2 0 with
      | error f =>
        have T3:Hid (Rl.names s.env ts2 0=.error f):=hn2
        have HE:Hid (F=.error f):=(by rw [HF.out];unfold Rl.set';simp only [T1.out,T2.out,hn2]:F=.error f)
        clear hn2
        go_enter Tryz.func41,Tryz.ntmps41
        go_wp2_with (first | (go_at_call 61;have hc:=fresh_any s.env rb S x ts _ (HI.out.alloc (.cells #[.string (bs tx),.int .i64 ti] 79)) hS (HS.out.mp.alloc _) hmb;rw [T1.out] at hc;refine hc.mono ?_;clear hc;rintro e w1 ⟨rfl,hI1,ho1⟩;have HI1:Hid (In w1 rb S x ts1):=hI1;clear hI1) | (go_at_call 33;have hc:=want_any 61 rb S x ts1 _ (HI1.out.alloc (.cells #[.string (bs t.text),.int .i64 (t.at':Int)] 79)) hS;rw [T2.out] at hc;refine hc.mono ?_;clear hc;rintro e w2 ⟨rfl,hI2,ho2⟩;have HI2:Hid (In w2 rb S x ts2):=hI2;obtain ⟨i2,hR2,_,_⟩:=hI2;have d7:=hR2.c7;clear hR2;have HO2:Hid (Only (·=rb) w w2):=((((Only.refl (·=rb) w).alloc _).trans ho1).alloc _).trans ho2;have HS2:Hid (Stt w2 rb x s):=HS.out.only HO2.out;have hl1:=HI1.out.lt;have P2:Hid (Pb w2 w1.heap.size t.text t.at'):=(Pb.new w1 _ _).only ho2 (by omega);have p0:=P2.out.c0))
        have d7':w2.drew.cell? ⟨rb,7,none⟩=some (.map (some x.mb))∧w2.drew.cell? ⟨w1.heap.size,0,none⟩=some (.string (bs t.text)):=⟨d7,p0⟩
        refine wp_region_held_drew (S:=fun w'=>w'.cell? ⟨rb,7,none⟩=some (.map (some x.mb))∧w'.cell? ⟨w1.heap.size,0,none⟩=some (.string (bs t.text))) (by kernel_rfl) d7' (fun hHeld=>?_)
        refine wpAnyH_take (i:=0) (v:=Value.pointer (some ⟨rb,0,none⟩)) rfl (by kernel_rfl) (by kernel_rfl) (by kernel_rfl) (fun _ _ _ h=>h) (Or.inl ⟨by rfl,fun w hSw=>by first | (go_simp;done) | go_simp⟩) (by assumption) ?_
        simp only [Act.put,List.setIfInBounds_toArray,List.set_cons_zero,List.set_cons_succ]
        refine wpAnyH_take (i:=1) (v:=Value.pointer (some ⟨rb,0,none⟩)) rfl (by kernel_rfl) (by kernel_rfl) (by kernel_rfl) (fun _ _ _ h=>h) (Or.inl ⟨by rfl,fun w hSw=>by first | (go_simp;done) | go_simp⟩) (by assumption) ?_
        simp only [Act.put,List.setIfInBounds_toArray,List.set_cons_zero,List.set_cons_succ]
        refine wpAnyH_take (i:=2) (v:=Value.pointer (some ⟨rb,7,none⟩)) rfl (by kernel_rfl) (by kernel_rfl) (by kernel_rfl) (fun _ _ _ h=>h) (Or.inl ⟨by rfl,fun w hSw=>by first | (go_simp;done) | go_simp⟩) (by assumption) ?_
        simp only [Act.put,List.setIfInBounds_toArray,List.set_cons_zero,List.set_cons_succ]
        refine wpAnyH_take (i:=3) (v:=Value.map (some x.mb)) rfl (by kernel_rfl) (by kernel_rfl) (by kernel_rfl) (fun _ _ _ h=>h) (Or.inl ⟨by rfl,fun w hSw=>by first | (go_simp;done) | go_simp⟩) (by assumption) ?_
        simp only [Act.put,List.setIfInBounds_toArray,List.set_cons_zero,List.set_cons_succ]
        refine wpAnyH_take (i:=4) (v:=Value.pointer (some ⟨w1.heap.size,0,none⟩)) rfl (by kernel_rfl) (by kernel_rfl) (by kernel_rfl) (fun _ _ _ h=>h) (Or.inl ⟨by rfl,fun w hSw=>by first | (go_simp;done) | go_simp⟩) (by assumption) ?_
        simp only [Act.put,List.setIfInBounds_toArray,List.set_cons_zero,List.set_cons_succ]
        refine wpAnyH_take (i:=5) (v:=Value.string (bs t.text)) rfl (by kernel_rfl) (by kernel_rfl) (by kernel_rfl) (fun _ _ _ h=>h) (Or.inl ⟨by rfl,fun w hSw=>by first | (go_simp;done) | go_simp⟩) (by assumption) ?_
        simp only [Act.put,List.setIfInBounds_toArray,List.set_cons_zero,List.set_cons_succ]
        refine wpAnyH_take (i:=6) (v:=Value.pointer (some ⟨rb,0,none⟩)) rfl (by kernel_rfl) (by kernel_rfl) (by kernel_rfl) (fun _ _ _ h=>h) (Or.inl ⟨by rfl,fun w hSw=>by first | (go_simp;done) | go_simp⟩) (by assumption) ?_
        simp only [Act.put,List.setIfInBounds_toArray,List.set_cons_zero,List.set_cons_succ]
        refine wpAnyH_ready (rs:=[7]) (by kernel_rfl) (by simp) ?_
        refine AllReadyH.cons rfl (fun K hK=>?_) AllReadyH.nil
        rw [if_pos (by rfl)]
        go_simp
        have hc:=names_any s.env rb S x ts2 _ HI2.out.drew hS (HS2.out.mp.drewN 1) hmb
        rw [T3.out] at hc
        refine hc.mono ?_
        clear hc
        rintro e w3 ⟨rfl,ho3⟩
        refine ⟨rfl,?_⟩
        rw [HE.out]
        exact ⟨rfl,(HO2.out.drew.trans ho3).fr HI.out.cl _⟩
      | ok r =>
        obtain ⟨b,ts3⟩:=r
        have T3:Hid (Rl.names s.env ts2 0=.ok (b,ts3)):=hn2
        have HE:Hid (F=.ok (ts3,{ s with env:=s.env++[(t.text,b)] })):=(by rw [HF.out];unfold Rl.set';simp only [T1.out,T2.out,hn2]:F=.ok (ts3,{ s with env:=s.env++[(t.text,b)] }))
        have hrng:=names_range hn2 (by omega)
        clear hn2
        go_enter Tryz.func41,Tryz.ntmps41
        go_wp2_with (first | (go_at_call 61;have hc:=fresh_any s.env rb S x ts _ (HI.out.alloc (.cells #[.string (bs tx),.int .i64 ti] 79)) hS (HS.out.mp.alloc _) hmb;rw [T1.out] at hc;refine hc.mono ?_;clear hc;rintro e w1 ⟨rfl,hI1,ho1⟩;have HI1:Hid (In w1 rb S x ts1):=hI1;clear hI1) | (go_at_call 33;have hc:=want_any 61 rb S x ts1 _ (HI1.out.alloc (.cells #[.string (bs t.text),.int .i64 (t.at':Int)] 79)) hS;rw [T2.out] at hc;refine hc.mono ?_;clear hc;rintro e w2 ⟨rfl,hI2,ho2⟩;have HI2:Hid (In w2 rb S x ts2):=hI2;obtain ⟨i2,hR2,_,_⟩:=hI2;have d7:=hR2.c7;clear hR2;have HO2:Hid (Only (·=rb) w w2):=((((Only.refl (·=rb) w).alloc _).trans ho1).alloc _).trans ho2;have HS2:Hid (Stt w2 rb x s):=HS.out.only HO2.out;have hl1:=HI1.out.lt;have P2:Hid (Pb w2 w1.heap.size t.text t.at'):=(Pb.new w1 _ _).only ho2 (by omega);have p0:=P2.out.c0))
        have d7':w2.drew.cell? ⟨rb,7,none⟩=some (.map (some x.mb))∧w2.drew.cell? ⟨w1.heap.size,0,none⟩=some (.string (bs t.text)):=⟨d7,p0⟩
        refine wp_region_held_drew (S:=fun w'=>w'.cell? ⟨rb,7,none⟩=some (.map (some x.mb))∧w'.cell? ⟨w1.heap.size,0,none⟩=some (.string (bs t.text))) (by kernel_rfl) d7' (fun hHeld=>?_)
        refine wpAnyH_take (i:=0) (v:=Value.pointer (some ⟨rb,0,none⟩)) rfl (by kernel_rfl) (by kernel_rfl) (by kernel_rfl) (fun _ _ _ h=>h) (Or.inl ⟨by rfl,fun w hSw=>by first | (go_simp;done) | go_simp⟩) (by assumption) ?_
        simp only [Act.put,List.setIfInBounds_toArray,List.set_cons_zero,List.set_cons_succ]
        refine wpAnyH_take (i:=1) (v:=Value.pointer (some ⟨rb,0,none⟩)) rfl (by kernel_rfl) (by kernel_rfl) (by kernel_rfl) (fun _ _ _ h=>h) (Or.inl ⟨by rfl,fun w hSw=>by first | (go_simp;done) | go_simp⟩) (by assumption) ?_
        simp only [Act.put,List.setIfInBounds_toArray,List.set_cons_zero,List.set_cons_succ]
        refine wpAnyH_take (i:=2) (v:=Value.pointer (some ⟨rb,7,none⟩)) rfl (by kernel_rfl) (by kernel_rfl) (by kernel_rfl) (fun _ _ _ h=>h) (Or.inl ⟨by rfl,fun w hSw=>by first | (go_simp;done) | go_simp⟩) (by assumption) ?_
        simp only [Act.put,List.setIfInBounds_toArray,List.set_cons_zero,List.set_cons_succ]
        refine wpAnyH_take (i:=3) (v:=Value.map (some x.mb)) rfl (by kernel_rfl) (by kernel_rfl) (by kernel_rfl) (fun _ _ _ h=>h) (Or.inl ⟨by rfl,fun w hSw=>by first | (go_simp;done) | go_simp⟩) (by assumption) ?_
        simp only [Act.put,List.setIfInBounds_toArray,List.set_cons_zero,List.set_cons_succ]
        refine wpAnyH_take (i:=4) (v:=Value.pointer (some ⟨w1.heap.size,0,none⟩)) rfl (by kernel_rfl) (by kernel_rfl) (by kernel_rfl) (fun _ _ _ h=>h) (Or.inl ⟨by rfl,fun w hSw=>by first | (go_simp;done) | go_simp⟩) (by assumption) ?_
        simp only [Act.put,List.setIfInBounds_toArray,List.set_cons_zero,List.set_cons_succ]
        refine wpAnyH_take (i:=5) (v:=Value.string (bs t.text)) rfl (by kernel_rfl) (by kernel_rfl) (by kernel_rfl) (fun _ _ _ h=>h) (Or.inl ⟨by rfl,fun w hSw=>by first | (go_simp;done) | go_simp⟩) (by assumption) ?_
        simp only [Act.put,List.setIfInBounds_toArray,List.set_cons_zero,List.set_cons_succ]
        refine wpAnyH_take (i:=6) (v:=Value.pointer (some ⟨rb,0,none⟩)) rfl (by kernel_rfl) (by kernel_rfl) (by kernel_rfl) (fun _ _ _ h=>h) (Or.inl ⟨by rfl,fun w hSw=>by first | (go_simp;done) | go_simp⟩) (by assumption) ?_
        simp only [Act.put,List.setIfInBounds_toArray,List.set_cons_zero,List.set_cons_succ]
        refine wpAnyH_ready (rs:=[7]) (by kernel_rfl) (by simp) ?_
        refine AllReadyH.cons rfl (fun K hK=>?_) AllReadyH.nil
        rw [if_pos (by rfl)]
        go_simp
        have hc:=names_any s.env rb S x ts2 _ HI2.out.drew hS (HS2.out.mp.drewN 1) hmb
        rw [T3.out] at hc
        refine hc.mono ?_
        clear hc
        rintro e w3 ⟨rfl,hI3,ho3⟩
        have HO3:Only (·=rb) w w3:=HO2.out.drew.trans ho3
        have hS3:Stt w3 rb x s:=HS.out.only HO3
        have hPb3:Pb w3 w1.heap.size t.text t.at':=P2.out.only (P:=(·=rb)) ((Only.refl (·=rb) w2).drew.trans ho3) (by omega)
        have hd3:w3.cell? ⟨rb,7,none⟩=some (.map (some x.mb))∧w3.cell? ⟨w1.heap.size,0,none⟩=some (.string (bs t.text)):=by
          obtain ⟨i3,hR3,_,_⟩:=hI3
          exact ⟨hR3.c7,hPb3.c0⟩
        refine hK.out _ _ hd3 (fun hHeld2=>?_)
        clear hK
        try simp only [Act.put,List.setIfInBounds_toArray,List.set_cons_zero,List.set_cons_succ]
        refine wpAnyH_ready (rs:=[8]) (by kernel_rfl) (by simp) ?_
        refine AllReadyH.cons rfl (fun K hK=>?_) AllReadyH.nil
        obtain ⟨D,hown,hism,hD⟩:=hS3.mp
        refine step_of_wp rfl (wp_put w3 _ _ _ 54 rfl 9 42 law9 Tryz.underlying54 _ x.mb s.env.length D rfl hown (by unfold maxLen;omega) _ _ _ rfl rfl (key9 t.text htl) _ [] (plainElem_int Tryz.underlying42 (wf_u32 hrng)) ?_)
        intro w4 hown4 hg4
        have hO34:Only (·=x.mb) w3 w4:=⟨hg4.os,hg4.tape,hg4.output,hg4.size,fun g hg hn=>hg4.block g hg (fun e=>hn (by injection e))⟩
        have hd4:w4.cell? ⟨rb,7,none⟩=some (.map (some x.mb))∧w4.cell? ⟨w1.heap.size,0,none⟩=some (.string (bs t.text)):=by
          obtain ⟨i3,hR3,_,_⟩:=hI3
          exact ⟨(hR3.only hO34 (by omega)).c7,(hPb3.only hO34 (by omega)).c0⟩
        refine hK.out _ _ hd4 (fun hHeld3=>?_)
        clear hK
        refine wpAnyH_done (by kernel_rfl) ?_ _
        clear hHeld hHeld2 hHeld3
        go_wp2_with fail
        go_end0
        rw [HE.out]
        refine ⟨rfl,x,rfl,hI3.only hO34 (by omega),?_,(HO3.fr HI.out.cl _).trans hO34.frMb⟩
        exact ⟨own_only hS3.cls hO34 (fun g hg=>by omega),own_only hS3.trt hO34 (fun g hg=>by omega),hS3.lst.only hO34 (fun g hg=>by omega),Mp.put (w:=w3) hism hD hown4 HFn.out,hS3.jn,hS3.af,hS3.pl,hS3.op,hS3.mb,hS3.c24,hS3.l24,hS3.p200⟩
end Go.Proofs.YtchaoonefiamdaaGreatDoor
