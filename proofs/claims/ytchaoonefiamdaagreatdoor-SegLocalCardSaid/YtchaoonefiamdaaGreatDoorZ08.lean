/- Often Len Thing -/
import Derived.Test.YtchaoonefiamdaaGreatDoorZ07
import Derived.Test.YtchaoonefiamdaaGreatDoorZ00
namespace Go.Proofs.YtchaoonefiamdaaGreatDoor
open Go.RowKit Go.Maps
set_option linter.unusedVariables false
set_option linter.unusedSimpArgs false
theorem often_cons (e:Rl.Ex) (t:Rl.Tk) (ts:List Rl.Tk):Rl.often e (t :: ts)=if t.bad=true then .error (20,t.at') else if t.text=[42] then .ok (.mk 4 0 [e],ts) else if t.text=[43] then .ok (.mk 5 0 [e],ts) else if t.text=[63] then .ok (.mk 6 0 [e],ts) else .ok (e,t :: ts):=rfl
theorem Tr.one {w:World} {F F':Nat→Prop} {ex:Rl.Ex} {o s k:Value} {g:Nat} (op:Int) (h:Tr w F ex (.agg #[o,s,k])) (hg:w.heap[g]?=some (.cells #[o,s,k] 88 (0,0))) (hF:∀ b,F b→F' b) (hF':F' g) :
    Tr w F' (.mk op 0 [ex]) (.agg #[.int .u8 op,.int .u32 0,.slice (some ⟨g,0,none⟩) 1 1]):=by
  unfold Tr
  refine ⟨some ⟨g,0,none⟩,1,rfl,Nat.le_refl _,fun _=>⟨g,_,_,rfl,hF',hg,?_⟩⟩
  unfold Trs
  exact ⟨⟨o,s,k,rfl,rfl,rfl,h.keep (fun b hb _=>⟨hF b hb,rfl⟩)⟩,by unfold Trs;trivial⟩
def set3 (w:World) (z:Nat) (a b c:Value):World:=((w.setCell ⟨z,0,none⟩ a).setCell ⟨z,1,none⟩ b).setCell ⟨z,2,none⟩ c
theorem set3_size (w:World) (z:Nat) (a b c:Value):(set3 w z a b c).heap.size=w.heap.size:=by simp [set3,World.setCell]
theorem set3_other (w:World) {z g:Nat} (a b c:Value) (h:g≠z):(set3 w z a b c).heap[g]?=w.heap[g]? :=
  (Below.heap_setCell _ _ _ _ (fun e=>h e)).trans ((Below.heap_setCell _ _ _ _ (fun e=>h e)).trans (Below.heap_setCell _ _ _ _ (fun e=>h e)))
theorem Xb.set3 {w:World} {z:Nat} {o s k:Value} (h:Xb w z o s k) (a b c:Value):Xb (set3 w z a b c) z a b c:=heap_setCell_at (heap_setCell_at (heap_setCell_at h a) b) c
theorem results_x {fn:Func} {p:Tmp} (h:fn.results=#[.cell p 88]) (tmps:Array Value) {w:World} {g:Nat} {o s k:Value} (hp:tmps.getD p undef=.pointer (some ⟨g,0,none⟩)) (hg:Xb w g o s k):(results fn tmps).run Tryz.prog w=.ok (.agg #[o,s,k]) w:=by
  obtain ⟨i,hi,_,hz,_⟩:=info_parts info50
  exact results_cell_row h tmps w g 88 _ (0,0) _ hp hg Tryz.underlying88 rfl (by rw [hi];simp [hz])
theorem In.set3 {w:World} {rb:Nat} {S:ByteArray} {x:Rd} {ts:List Rl.Tk} (h:In w rb S x ts) {z:Nat} (hz:z≠rb) (a b c:Value):In (set3 w z a b c) rb S x ts:=((h.setOther hz a).setOther hz b).setOther hz c
theorem Only.set3 {P:Nat→Prop} {w0 w:World} (h:Only P w0 w) {z:Nat} (hz:w0.heap.size≤z) (a b c:Value):Only P w0 (set3 w z a b c):=((h.setNew (p:=⟨z,0,none⟩) hz a).setNew (p:=⟨z,1,none⟩) hz b).setNew (p:=⟨z,2,none⟩) hz c
theorem Tr.later {w w':World} {F F':Nat→Prop} {rb:Nat} {ex:Rl.Ex} {v:Value} (h:Tr w F ex v) (ho:Only (·=rb) w w') (hF:∀ b,F b→b≠rb) (hF':∀ b,F b→F' b):Tr w' F' ex v :=
  h.keep fun b hb hl=>⟨hF' b hb,ho.block b hl (hF b hb)⟩
set_option maxRecDepth 100000 in
set_option maxHeartbeats 4000000 in
theorem often_any (rb:Nat) (S:ByteArray) (x:Rd) (F:Nat→Prop) (ex:Rl.Ex) (v:Value) (ts:List Rl.Tk) (w:World) (h:In w rb S x ts) (hS:S.size≤4096) (hT:Tr w F ex v) (hF:∀ b,F b→b≠rb) :
    Calls Tryz.prog 108 #[.pointer (some ⟨rb,0,none⟩),v] w (oftP rb S x F w (Rl.often ex ts)):=by
  obtain ⟨o,s,a,n,c,rfl⟩:=hT.form
  cases ts with
  | nil=>obtain ⟨i,_,h2,_⟩:=h;exact h2.elim
  | cons t ts =>
    have hlt:=h.lt
    have HT:Hid (Tr w F ex (.agg #[.int .u8 o,.int .u32 s,.slice a n c])):=hT
    have HF:Hid (∀ b,F b→b≠rb):=hF
    have HI:Hid (In ((w.alloc (.cells #[.int .u8 o,.int .u32 s,.slice a n c] 88)).alloc (.cells #[.int .u8 0,.int .u32 0,.slice none 0 0] 88)) rb S x (t :: ts)):=(h.alloc _).alloc _
    have HO0:Hid (Only (·=rb) w ((w.alloc (.cells #[.int .u8 o,.int .u32 s,.slice a n c] 88)).alloc (.cells #[.int .u8 0,.int .u32 0,.slice none 0 0] 88))):=((Only.refl (·=rb) w).alloc _).alloc _
    have X0:Hid (Xb ((w.alloc (.cells #[.int .u8 o,.int .u32 s,.slice a n c] 88)).alloc (.cells #[.int .u8 0,.int .u32 0,.slice none 0 0] 88)) w.heap.size (.int .u8 o) (.int .u32 s) (.slice a n c)):=(Xb.new w _ _ _).alloc _
    have Z0:Hid (Xb ((w.alloc (.cells #[.int .u8 o,.int .u32 s,.slice a n c] 88)).alloc (.cells #[.int .u8 0,.int .u32 0,.slice none 0 0] 88)) (w.heap.size+1) (.int .u8 0) (.int .u32 0) (.slice none 0 0)):=heap_alloc2_new _ _ _
    rw [often_cons]
    clear h hT hF
    by_cases hb:t.bad=true
    · rw [if_pos hb]
      have T1:Hid (Rl.took 42 (t :: ts)=.error (20,t.at')):=by show Rl.took 42 (t :: ts)=.error (20,t.at');rw [took_cons,if_pos hb]
      clear hb
      go_enter Tryz.func108,Tryz.ntmps108
      go_wp2_with (go_at_call 50;have hc:=took_any 42 rb S x (t :: ts) _ HI.out hS;rw [T1.out] at hc;refine hc.mono ?_;clear hc;rintro e w2 ⟨rfl,ho2⟩)
      exact ⟨rfl,rfl,HO0.out.trans ho2⟩
    · rw [if_neg hb]
      by_cases h42:t.text=[42]
      · rw [if_pos h42]
        have T1:Hid (Rl.took 42 (t :: ts)=.ok (true,ts)):=by show Rl.took 42 (t :: ts)=.ok (true,ts);rw [took_cons,if_neg hb,if_pos h42]
        clear hb h42
        go_enter Tryz.func108,Tryz.ntmps108
        go_wp2_with (go_at_call_of 50 (Value.string ⟨#[42]⟩);have hc:=took_any 42 rb S x (t :: ts) _ HI.out hS;rw [T1.out] at hc;refine hc.mono ?_;clear hc;rintro e w2 ⟨rfl,hI2,ho2⟩;have HI2:Hid (In w2 rb S x (ts)):=hI2;clear hI2;have X2:Hid (Xb w2 w.heap.size (.int .u8 o) (.int .u32 s) (.slice a n c)):=X0.out.only ho2 (by omega);have Z2:Hid (Xb w2 (w.heap.size+1) (.int .u8 0) (.int .u32 0) (.slice none 0 0)):=Z0.out.only ho2 (by omega);have HO2:Hid (Only (·=rb) w w2):=HO0.out.trans ho2;clear ho2;have x0:=X2.out.c0;have x1:=X2.out.c1;have x2:=X2.out.c2;have z0:=Z2.out.c0;have z1:=Z2.out.c1;have z2:=Z2.out.c2;have zf0:=Z2.out.fz 0;have zf1:=Z2.out.fz 1;have zf2:=Z2.out.fz 2;have hl2:=Z2.out.lt)
        refine bodyPost_ret (v:=.agg #[.int .u8 4,.int .u32 0,.slice (some ⟨w2.heap.size,0,none⟩) 1 1]) (results_x rfl _ rfl ((Z2.out.set3 _ _ _).alloc _)) rfl ?_
        refine ⟨_,rfl,?_,(HI2.out.set3 (z:=w.heap.size+1) (by omega) _ _ _).alloc _,(HO2.out.set3 (z:=w.heap.size+1) (by omega) _ _ _).alloc _⟩
        have hg:=heap_alloc_new (set3 w2 (w.heap.size+1) (.int .u8 4) (.int .u32 0) (.slice (some ⟨w2.heap.size,0,none⟩) 1 1)) (.cells #[.int .u8 o,.int .u32 s,.slice a n c] 88)
        rw [set3_size] at hg
        exact Tr.one 4 (HT.out.later ((HO2.out.set3 (z:=w.heap.size+1) (by omega) _ _ _).alloc _) HF.out (fun b hb=>hb)) hg (fun b hb=>Or.inl hb) (Or.inr (by omega))
      · rw [if_neg h42]
        have T1:Hid (Rl.took 42 (t :: ts)=.ok (false,t :: ts)):=by show Rl.took 42 (t :: ts)=.ok (false,t :: ts);rw [took_cons,if_neg hb,if_neg h42]
        by_cases h43:t.text=[43]
        · rw [if_pos h43]
          have T2:Hid (Rl.took 43 (t :: ts)=.ok (true,ts)):=by show Rl.took 43 (t :: ts)=.ok (true,ts);rw [took_cons,if_neg hb,if_pos h43]
          clear hb h42 h43
          go_enter Tryz.func108,Tryz.ntmps108
          go_wp2_with (first | (go_at_call_of 50 (Value.string ⟨#[42]⟩);have hc:=took_any 42 rb S x (t :: ts) _ HI.out hS;rw [T1.out] at hc;refine hc.mono ?_;clear hc;rintro e w2 ⟨rfl,hI2,ho2⟩;have HI2:Hid (In w2 rb S x (t :: ts)):=hI2;clear hI2;have X2:Hid (Xb w2 w.heap.size (.int .u8 o) (.int .u32 s) (.slice a n c)):=X0.out.only ho2 (by omega);have Z2:Hid (Xb w2 (w.heap.size+1) (.int .u8 0) (.int .u32 0) (.slice none 0 0)):=Z0.out.only ho2 (by omega);have HO2:Hid (Only (·=rb) w w2):=HO0.out.trans ho2;clear ho2) | (go_at_call_of 50 (Value.string ⟨#[43]⟩);have hc:=took_any 43 rb S x (t :: ts) _ HI2.out hS;rw [T2.out] at hc;refine hc.mono ?_;clear hc;rintro e w3 ⟨rfl,hI3,ho3⟩;have HI3:Hid (In w3 rb S x (ts)):=hI3;clear hI3;have X3:Hid (Xb w3 w.heap.size (.int .u8 o) (.int .u32 s) (.slice a n c)):=X2.out.only ho3 (by omega);have Z3:Hid (Xb w3 (w.heap.size+1) (.int .u8 0) (.int .u32 0) (.slice none 0 0)):=Z2.out.only ho3 (by omega);have HO3:Hid (Only (·=rb) w w3):=HO2.out.trans ho3;clear ho3;have x0:=X3.out.c0;have x1:=X3.out.c1;have x2:=X3.out.c2;have z0:=Z3.out.c0;have z1:=Z3.out.c1;have z2:=Z3.out.c2;have zf0:=Z3.out.fz 0;have zf1:=Z3.out.fz 1;have zf2:=Z3.out.fz 2;have hl3:=Z3.out.lt))
          refine bodyPost_ret (v:=.agg #[.int .u8 5,.int .u32 0,.slice (some ⟨w3.heap.size,0,none⟩) 1 1]) (results_x rfl _ rfl ((Z3.out.set3 _ _ _).alloc _)) rfl ?_
          refine ⟨_,rfl,?_,(HI3.out.set3 (z:=w.heap.size+1) (by omega) _ _ _).alloc _,(HO3.out.set3 (z:=w.heap.size+1) (by omega) _ _ _).alloc _⟩
          have hg:=heap_alloc_new (set3 w3 (w.heap.size+1) (.int .u8 5) (.int .u32 0) (.slice (some ⟨w3.heap.size,0,none⟩) 1 1)) (.cells #[.int .u8 o,.int .u32 s,.slice a n c] 88)
          rw [set3_size] at hg
          exact Tr.one 5 (HT.out.later ((HO3.out.set3 (z:=w.heap.size+1) (by omega) _ _ _).alloc _) HF.out (fun b hb=>hb)) hg (fun b hb=>Or.inl hb) (Or.inr (by omega))
        · rw [if_neg h43]
          have T2:Hid (Rl.took 43 (t :: ts)=.ok (false,t :: ts)):=by show Rl.took 43 (t :: ts)=.ok (false,t :: ts);rw [took_cons,if_neg hb,if_neg h43]
          by_cases h63:t.text=[63]
          · rw [if_pos h63]
            have T3:Hid (Rl.took 63 (t :: ts)=.ok (true,ts)):=by show Rl.took 63 (t :: ts)=.ok (true,ts);rw [took_cons,if_neg hb,if_pos h63]
            clear hb h42 h43 h63
            go_enter Tryz.func108,Tryz.ntmps108
            go_wp2_with (first | (go_at_call_of 50 (Value.string ⟨#[42]⟩);have hc:=took_any 42 rb S x (t :: ts) _ HI.out hS;rw [T1.out] at hc;refine hc.mono ?_;clear hc;rintro e w2 ⟨rfl,hI2,ho2⟩;have HI2:Hid (In w2 rb S x (t :: ts)):=hI2;clear hI2;have X2:Hid (Xb w2 w.heap.size (.int .u8 o) (.int .u32 s) (.slice a n c)):=X0.out.only ho2 (by omega);have Z2:Hid (Xb w2 (w.heap.size+1) (.int .u8 0) (.int .u32 0) (.slice none 0 0)):=Z0.out.only ho2 (by omega);have HO2:Hid (Only (·=rb) w w2):=HO0.out.trans ho2;clear ho2) | (go_at_call_of 50 (Value.string ⟨#[43]⟩);have hc:=took_any 43 rb S x (t :: ts) _ HI2.out hS;rw [T2.out] at hc;refine hc.mono ?_;clear hc;rintro e w3 ⟨rfl,hI3,ho3⟩;have HI3:Hid (In w3 rb S x (t :: ts)):=hI3;clear hI3;have X3:Hid (Xb w3 w.heap.size (.int .u8 o) (.int .u32 s) (.slice a n c)):=X2.out.only ho3 (by omega);have Z3:Hid (Xb w3 (w.heap.size+1) (.int .u8 0) (.int .u32 0) (.slice none 0 0)):=Z2.out.only ho3 (by omega);have HO3:Hid (Only (·=rb) w w3):=HO2.out.trans ho3;clear ho3) | (go_at_call_of 50 (Value.string ⟨#[63]⟩);have hc:=took_any 63 rb S x (t :: ts) _ HI3.out hS;rw [T3.out] at hc;refine hc.mono ?_;clear hc;rintro e w4 ⟨rfl,hI4,ho4⟩;have HI4:Hid (In w4 rb S x (ts)):=hI4;clear hI4;have X4:Hid (Xb w4 w.heap.size (.int .u8 o) (.int .u32 s) (.slice a n c)):=X3.out.only ho4 (by omega);have Z4:Hid (Xb w4 (w.heap.size+1) (.int .u8 0) (.int .u32 0) (.slice none 0 0)):=Z3.out.only ho4 (by omega);have HO4:Hid (Only (·=rb) w w4):=HO3.out.trans ho4;clear ho4;have x0:=X4.out.c0;have x1:=X4.out.c1;have x2:=X4.out.c2;have z0:=Z4.out.c0;have z1:=Z4.out.c1;have z2:=Z4.out.c2;have zf0:=Z4.out.fz 0;have zf1:=Z4.out.fz 1;have zf2:=Z4.out.fz 2;have hl4:=Z4.out.lt))
            refine bodyPost_ret (v:=.agg #[.int .u8 6,.int .u32 0,.slice (some ⟨w4.heap.size,0,none⟩) 1 1]) (results_x rfl _ rfl ((Z4.out.set3 _ _ _).alloc _)) rfl ?_
            refine ⟨_,rfl,?_,(HI4.out.set3 (z:=w.heap.size+1) (by omega) _ _ _).alloc _,(HO4.out.set3 (z:=w.heap.size+1) (by omega) _ _ _).alloc _⟩
            have hg:=heap_alloc_new (set3 w4 (w.heap.size+1) (.int .u8 6) (.int .u32 0) (.slice (some ⟨w4.heap.size,0,none⟩) 1 1)) (.cells #[.int .u8 o,.int .u32 s,.slice a n c] 88)
            rw [set3_size] at hg
            exact Tr.one 6 (HT.out.later ((HO4.out.set3 (z:=w.heap.size+1) (by omega) _ _ _).alloc _) HF.out (fun b hb=>hb)) hg (fun b hb=>Or.inl hb) (Or.inr (by omega))
          · rw [if_neg h63]
            have T3:Hid (Rl.took 63 (t :: ts)=.ok (false,t :: ts)):=by show Rl.took 63 (t :: ts)=.ok (false,t :: ts);rw [took_cons,if_neg hb,if_neg h63]
            clear hb h42 h43 h63
            go_enter Tryz.func108,Tryz.ntmps108
            go_wp2_with (first | (go_at_call_of 50 (Value.string ⟨#[42]⟩);have hc:=took_any 42 rb S x (t :: ts) _ HI.out hS;rw [T1.out] at hc;refine hc.mono ?_;clear hc;rintro e w2 ⟨rfl,hI2,ho2⟩;have HI2:Hid (In w2 rb S x (t :: ts)):=hI2;clear hI2;have X2:Hid (Xb w2 w.heap.size (.int .u8 o) (.int .u32 s) (.slice a n c)):=X0.out.only ho2 (by omega);have Z2:Hid (Xb w2 (w.heap.size+1) (.int .u8 0) (.int .u32 0) (.slice none 0 0)):=Z0.out.only ho2 (by omega);have HO2:Hid (Only (·=rb) w w2):=HO0.out.trans ho2;clear ho2) | (go_at_call_of 50 (Value.string ⟨#[43]⟩);have hc:=took_any 43 rb S x (t :: ts) _ HI2.out hS;rw [T2.out] at hc;refine hc.mono ?_;clear hc;rintro e w3 ⟨rfl,hI3,ho3⟩;have HI3:Hid (In w3 rb S x (t :: ts)):=hI3;clear hI3;have X3:Hid (Xb w3 w.heap.size (.int .u8 o) (.int .u32 s) (.slice a n c)):=X2.out.only ho3 (by omega);have Z3:Hid (Xb w3 (w.heap.size+1) (.int .u8 0) (.int .u32 0) (.slice none 0 0)):=Z2.out.only ho3 (by omega);have HO3:Hid (Only (·=rb) w w3):=HO2.out.trans ho3;clear ho3) | (go_at_call_of 50 (Value.string ⟨#[63]⟩);have hc:=took_any 63 rb S x (t :: ts) _ HI3.out hS;rw [T3.out] at hc;refine hc.mono ?_;clear hc;rintro e w4 ⟨rfl,hI4,ho4⟩;have HI4:Hid (In w4 rb S x (t :: ts)):=hI4;clear hI4;have X4:Hid (Xb w4 w.heap.size (.int .u8 o) (.int .u32 s) (.slice a n c)):=X3.out.only ho4 (by omega);have Z4:Hid (Xb w4 (w.heap.size+1) (.int .u8 0) (.int .u32 0) (.slice none 0 0)):=Z3.out.only ho4 (by omega);have HO4:Hid (Only (·=rb) w w4):=HO3.out.trans ho4;clear ho4;have x0:=X4.out.c0;have x1:=X4.out.c1;have x2:=X4.out.c2;have z0:=Z4.out.c0;have z1:=Z4.out.c1;have z2:=Z4.out.c2;have zf0:=Z4.out.fz 0;have zf1:=Z4.out.fz 1;have zf2:=Z4.out.fz 2;have hl4:=Z4.out.lt))
            refine bodyPost_ret (v:=.agg #[.int .u8 o,.int .u32 s,.slice a n c]) (results_x rfl _ rfl ((Z4.out.set3 _ _ _))) rfl ?_
            exact ⟨_,rfl,HT.out.later (HO4.out.set3 (z:=w.heap.size+1) (by omega) _ _ _) HF.out (fun b hb=>Or.inl hb),HI4.out.set3 (z:=w.heap.size+1) (by omega) _ _ _,HO4.out.set3 (z:=w.heap.size+1) (by omega) _ _ _⟩
end Go.Proofs.YtchaoonefiamdaaGreatDoor
namespace Go.Proofs.YtchaoonefiamdaaGreatDoor
set_option linter.unusedVariables false
set_option linter.unusedSimpArgs false
namespace Rl
theorem took_len {c:UInt8} {ts ts':List Tk} {b:Bool} (h:took c ts=.ok (b,ts')):ts'.length≤ts.length∧(b=true→ts'.length < ts.length):=by
  cases ts with
  | nil=>cases h
  | cons t ts =>
    simp only [took] at h
    split at h
    · cases h
    · split at h
      · cases h;simp
      · cases h;simp
theorem want_len {c:UInt8} {ts ts':List Tk} (h:want c ts=.ok ts'):ts'.length < ts.length:=by
  cases ts with
  | nil=>cases h
  | cons t ts =>
    simp only [want] at h
    split at h
    · cases h
    · split at h
      · cases h;simp
      · cases h
theorem names_len {E:Env}:∀ {ts ts':List Tk} {a b:Int},names E ts a=.ok (b,ts')→ts'.length≤ts.length
  | [],_,_,_,h=>by cases h
  | t :: ts,ts',a,b,h=>by
    simp only [names] at h
    split at h
    · cases h
    · split at h
      · split at h
        · cases h
        · have:=names_len h
          simp only [List.length_cons]
          omega
      · cases h;simp
theorem often_len {e e':Ex} {ts ts':List Tk} (h:often e ts=.ok (e',ts')):ts'.length≤ts.length:=by
  cases ts with
  | nil=>cases h
  | cons t ts =>
    simp only [often] at h
    split at h
    · cases h
    · split at h
      · cases h;simp
      · split at h
        · cases h;simp
        · split at h
          · cases h;simp
          · cases h;simp
theorem some_len {E:Env} {nc p p':Nat} {ts ts':List Tk} {b:Int} (h:some' E nc ts p=.ok (b,ts',p')) (hp:p≤200):ts'.length < ts.length∧p'≤200:=by
  cases ts with
  | nil=>cases h
  | cons t ts =>
    simp only [some'] at h
    split at h
    · cases h
    · split at h
      · cases h;simp;omega
      · split at h
        · split at h
          · cases h
          · rename_i h1
            split at h
            · cases h
            · rename_i h2
              split at h
              · cases h
              · rename_i h3
                cases h
                have:=took_len h1
                have:=names_len h2
                have:=want_len h3
                simp only [List.length_cons]
                omega
        · split at h
          · cases h
          · cases h;simp;omega
theorem expr_len (E:Env) (nc:Nat):∀ n,
    (∀ d ts p e ts' p',either E nc n d ts p=.ok (e,ts',p')→p≤200→ts'.length≤ts.length∧p'≤200) ∧
    (∀ d ts p l e ts' p',alts E nc n d ts p l=.ok (e,ts',p')→p≤200→ts'.length≤ts.length∧p'≤200) ∧
    (∀ d ts p l e ts' p',row E nc n d ts p l=.ok (e,ts',p')→p≤200→ts'.length≤ts.length∧p'≤200) ∧
    (∀ d ts p e ts' p',thing E nc n d ts p=.ok (e,ts',p')→p≤200→ts'.length < ts.length∧p'≤200)
  | 0=>by
    refine ⟨fun _ _ _ _ _ _ h=>?_,fun _ _ _ _ _ _ _ h=>?_,fun _ _ _ _ _ _ _ h=>?_,fun _ _ _ _ _ _ h=>?_⟩ <;> simp [either,alts,row,thing] at h
  | n+1=>by
    obtain ⟨hE,hA,hR,hT⟩:=expr_len E nc n
    refine ⟨fun d ts p e ts' p' h hp=>?_,fun d ts p l e ts' p' h hp=>?_,fun d ts p l e ts' p' h hp=>?_,fun d ts p e ts' p' h hp=>?_⟩
    · simp only [either] at h
      split at h
      · cases h
      · rename_i h1
        have a1:=hR _ _ _ _ _ _ _ h1 hp
        have a2:=hA _ _ _ _ _ _ _ h a1.2
        omega
    · simp only [alts] at h
      split at h
      · cases h
      · rename_i h1
        cases h
        have:=took_len h1
        omega
      · rename_i h1
        split at h
        · cases h
        · rename_i h2
          have a0:=took_len h1
          have a1:=hR _ _ _ _ _ _ _ h2 hp
          have a2:=hA _ _ _ _ _ _ _ h a1.2
          omega
    · cases ts with
      | nil=>simp [row,thing] at h
      | cons t ts =>
        simp only [row] at h
        split at h
        · cases h
        · split at h
          · split at h
            · cases h
            · rename_i h1
              split at h
              · cases h
              · rename_i h2
                have a1:=hT _ _ _ _ _ _ h1 hp
                have a2:=often_len h2
                have a3:=hR _ _ _ _ _ _ _ h a1.2
                omega
          · cases h
            exact ⟨Nat.le_refl _,hp⟩
    · cases ts with
      | nil=>simp [row,thing] at h
      | cons t ts =>
        simp only [thing] at h
        split at h
        · split at h
          · cases h
          · split at h
            · cases h
            · rename_i h1
              split at h
              · cases h
              · rename_i h2
                cases h
                have a1:=hE _ _ _ _ _ _ h1 hp
                have a2:=want_len h2
                simp only [List.length_cons]
                omega
        · split at h
          · cases h
          · rename_i h1
            cases h
            exact some_len h1 hp
end Rl
end Go.Proofs.YtchaoonefiamdaaGreatDoor
namespace Go.Proofs.YtchaoonefiamdaaGreatDoor
open Go.RowKit Go.Maps
set_option linter.unusedVariables false
set_option linter.unusedSimpArgs false
def Rd.withOp (x:Rd) (d:Int):Rd:={ x with op:=d }
theorem Rdr.set9 {w:World} {rb:Nat} {S:ByteArray} {i:Int} {x:Rd} (h:Rdr w rb S i x) (v:Int):Rdr (w.setCell ⟨rb,9,none⟩ (.int .i64 v)) rb S i (x.withOp v):=heap_setCell_at h _
theorem In.set9 {w:World} {rb:Nat} {S:ByteArray} {x:Rd} {ts:List Rl.Tk} (h:In w rb S x ts) (v:Int):In (w.setCell ⟨rb,9,none⟩ (.int .i64 v)) rb S (x.withOp v) ts:=by
  obtain ⟨i,h1,h2⟩:=h
  exact ⟨i,h1.set9 v,h2⟩
structure Cx (nc:Nat) (rb:Nat) (x:Rd) (p d:Nat):Prop where
  mb:x.mb≠rb
  pl:x.pl=(p:Int)
  p200:p≤200
  op:x.op=(d:Int)
  d16:d≤16
  vC:∃ a cap,x.vC=.slice a nc cap
  nc24:nc≤24
theorem Cx.withPl {nc rb:Nat} {x:Rd} {p d:Nat} (h:Cx nc rb x p d) {q:Nat} (hq:q≤200):Cx nc rb (x.withPl q) q d:=⟨h.mb,rfl,hq,h.op,h.d16,h.vC,h.nc24⟩
theorem Cx.withOp {nc rb:Nat} {x:Rd} {p d:Nat} (h:Cx nc rb x p d) {q:Nat} (hq:q≤16):Cx nc rb (x.withOp q) p q:=⟨h.mb,h.pl,h.p200,rfl,hq,h.vC,h.nc24⟩
def EitherOk (E:Rl.Env) (nc rb:Nat) (S:ByteArray) (n:Nat):Prop:=∀ (d p:Nat) (x:Rd) (ts:List Rl.Tk) (w:World),In w rb S x ts→Mp w x.mb E→Cx nc rb x p d→4*ts.length+3≤n →
  Calls Tryz.prog 85 #[.pointer (some ⟨rb,0,none⟩)] w (exprP rb S x w (Rl.either E nc n d ts p))
def RowOk (E:Rl.Env) (nc rb:Nat) (S:ByteArray) (n:Nat):Prop:=∀ (d p:Nat) (x:Rd) (ts:List Rl.Tk) (w:World),In w rb S x ts→Mp w x.mb E→Cx nc rb x p d→4*ts.length+2≤n →
  Calls Tryz.prog 99 #[.pointer (some ⟨rb,0,none⟩)] w (exprP rb S x w (Rl.row E nc n d ts p []))
def ThingOk (E:Rl.Env) (nc rb:Nat) (S:ByteArray) (n:Nat):Prop:=∀ (d p:Nat) (x:Rd) (t:Rl.Tk) (ts:List Rl.Tk) (w:World),In w rb S x (t :: ts)→Mp w x.mb E→Cx nc rb x p d→¬ t.bad=true→Rl.beg t=true→4*(ts.length+1)+1≤n →
  Calls Tryz.prog 109 #[.pointer (some ⟨rb,0,none⟩)] w (exprP rb S x w (Rl.thing E nc n d (t :: ts) p))
def brF (E:Rl.Env) (nc n d:Nat) (t:Rl.Tk) (ts:List Rl.Tk) (p:Nat):Rl.R (Rl.Ex × List Rl.Tk × Nat) :=
  if d=16 then .error (25,t.at') else match Rl.either E nc n (d+1) ts p with
    | .error f=>.error f
    | .ok (e,ts1,p1)=>match Rl.want 41 ts1 with
      | .error f=>.error f
      | .ok ts2=>.ok (e,ts2,p1)
theorem thing_cons (E:Rl.Env) (nc n d:Nat) (t:Rl.Tk) (ts:List Rl.Tk) (p:Nat):Rl.thing E nc (n+1) d (t :: ts) p=if t.text=[40] then brF E nc n d t ts p else
    match Rl.some' E nc (t :: ts) p with
    | .error f=>.error f
    | .ok (b,ts1,p1)=>.ok (.mk 1 b [],ts1,p1):=by simp only [Rl.thing,brF];rfl
theorem Tr.leaf (w:World) (F:Nat→Prop) (op s:Int):Tr w F (.mk op s []) (.agg #[.int .u8 op,.int .u32 s,.slice none 0 0]):=by
  unfold Tr
  exact ⟨none,0,rfl,Nat.le_refl _,fun h=>absurd rfl h⟩
set_option maxRecDepth 100000 in
set_option maxHeartbeats 4000000 in
theorem bracket_any (E:Rl.Env) (nc n d p rb:Nat) (S:ByteArray) (x:Rd) (t:Rl.Tk) (ts:List Rl.Tk) (i:Int) (w:World) (hR:Rdr w rb S i x) (hs:Rl.Strm S.data.toList t.at' (t :: ts)) (ht:t.at'+t.text.length≤S.size) (hS:S.size≤4096)
    (hM:Mp w x.mb E) (hC:Cx nc rb x p d) (hne:t.text≠[]) (hE:EitherOk E nc rb S n) (hn:4*ts.length+3≤n) :
    Calls Tryz.prog 120 #[.pointer (some ⟨rb,0,none⟩),.agg #[.string (bs t.text),.int .i64 (t.at':Int)]] w (exprP rb S x w (brF E nc n d t ts p)):=by
  have hlt:=hR.lt
  have c9:=hR.c9
  have f9:=hR.fz 9
  rw [hC.op] at c9
  have HC:Hid (Cx nc rb x p d):=hC
  have HR:Hid (Rdr w rb S i x):=hR
  have HM:Hid (Mp w x.mb E):=hM
  have Hs:Hid (Rl.Strm S.data.toList t.at' (t :: ts)):=hs
  have HE:Hid (EitherOk E nc rb S n):=hE
  have Hne:Hid (t.text≠[]):=hne
  have hd16:=hC.d16
  have HO0:Hid (Only (·=rb) w ((w.alloc (.cells #[.string (bs t.text),.int .i64 (t.at':Int)] 79)).alloc (.cells #[.int .u8 0,.int .u32 0,.slice none 0 0] 88))):=((Only.refl (·=rb) w).alloc _).alloc _
  have P0:Hid (Pb ((w.alloc (.cells #[.string (bs t.text),.int .i64 (t.at':Int)] 79)).alloc (.cells #[.int .u8 0,.int .u32 0,.slice none 0 0] 88)) w.heap.size t.text t.at'):=(Pb.new w _ _).alloc _
  have Z0:Hid (Xb ((w.alloc (.cells #[.string (bs t.text),.int .i64 (t.at':Int)] 79)).alloc (.cells #[.int .u8 0,.int .u32 0,.slice none 0 0] 88)) (w.heap.size+1) (.int .u8 0) (.int .u32 0) (.slice none 0 0)):=heap_alloc2_new _ _ _
  clear hR hM hC hs hE hne
  unfold brF
  by_cases h16:d=16
  · rw [if_pos h16]
    have q:((d:Int) == 16)=true:=by simp;omega
    clear h16
    go_enter Tryz.func120,Tryz.ntmps120
    go_wp2_with (go_at_call 31;refine (throw_any 25 t.at' _).mono ?_;rintro e w3 ⟨rfl,rfl⟩)
    exact ⟨rfl,rfl,HO0.out⟩
  · rw [if_neg h16]
    have q:((d:Int) == 16)=false:=by simp;omega
    have hd1:(d:Int) < 16:=by omega
    clear h16
    cases he:Rl.either E nc n (d+1) ts p with
    | error f =>
      have T1:Hid (Rl.either E nc n (d+1) ts p=.error f):=he
      clear he
      simp only
      go_enter Tryz.func120,Tryz.ntmps120
      go_wp2_with (first | (go_at_call 32;refine (take_any rb S i t.at' t.text x _ ((HR.out.alloc _).alloc _) (by omega)).mono ?_;rintro e w1 ⟨rfl,hR1,ho1⟩;have d9:=hR1.c9;rw [HC.out.op] at d9;have g9:=hR1.fz 9;have HR1:Hid (Rdr w1 rb S ((t.at'+t.text.length:Nat):Int) x):=hR1;clear hR1;have HO1:Hid (Only (·=rb) w w1):=HO0.out.trans ho1) | (go_at_call 85;have hc:=HE.out (d+1) p (x.withOp ((d+1:Nat):Int)) ts (w1.setCell ⟨rb,9,none⟩ (.int .i64 ((d:Int)+1))) ⟨_,HR1.out.set9 ((d:Int)+1),Rl.strm_tail Hs.out Hne.out,ht⟩ ((HM.out.only HO1.out HC.out.mb).setOther (fun e=>HC.out.mb e.symm) _) (HC.out.withOp (by omega)) (by omega);rw [T1.out] at hc;refine hc.mono ?_;clear hc;rintro e w2 ⟨rfl,ho2⟩))
      exact ⟨rfl,rfl,(HO1.out.setCell (p:=⟨rb,9,none⟩) rfl _).trans ho2⟩
    | ok r =>
      obtain ⟨ex,ts1,p1⟩:=r
      have T1:Hid (Rl.either E nc n (d+1) ts p=.ok (ex,ts1,p1)):=he
      clear he
      simp only
      cases hw:Rl.want 41 ts1 with
      | error f =>
        have T2:Hid (Rl.want 41 ts1=.error f):=hw
        clear hw
        simp only
        go_enter Tryz.func120,Tryz.ntmps120
        go_wp2_with (first | (go_at_call 32;refine (take_any rb S i t.at' t.text x _ ((HR.out.alloc _).alloc _) (by omega)).mono ?_;rintro e w1 ⟨rfl,hR1,ho1⟩;have d9:=hR1.c9;rw [HC.out.op] at d9;have g9:=hR1.fz 9;have HR1:Hid (Rdr w1 rb S ((t.at'+t.text.length:Nat):Int) x):=hR1;clear hR1;have HO1:Hid (Only (·=rb) w w1):=HO0.out.trans ho1) | (go_at_call 85;have hc:=HE.out (d+1) p (x.withOp ((d+1:Nat):Int)) ts (w1.setCell ⟨rb,9,none⟩ (.int .i64 ((d:Int)+1))) ⟨_,HR1.out.set9 ((d:Int)+1),Rl.strm_tail Hs.out Hne.out,ht⟩ ((HM.out.only HO1.out HC.out.mb).setOther (fun e=>HC.out.mb e.symm) _) (HC.out.withOp (by omega)) (by omega);rw [T1.out] at hc;refine hc.mono ?_;clear hc;rintro e w2 ⟨v,rfl,hT2,hI2,ho2⟩;obtain ⟨o,s,a,k,c,rfl⟩:=hT2.form) | (go_at_call 33;have hc:=want_any 41 rb S ((x.withOp ((d+1:Nat):Int)).withPl p1) ts1 _ (hI2.alloc (.cells #[.int .u8 o,.int .u32 s,.slice a k c] 88)) hS;rw [T2.out] at hc;refine hc.mono ?_;clear hc;rintro e w3 ⟨rfl,ho3⟩))
        exact ⟨rfl,rfl,(((HO1.out.setCell (p:=⟨rb,9,none⟩) rfl _).trans ho2).alloc _).trans ho3⟩
      | ok ts2 =>
        have T2:Hid (Rl.want 41 ts1=.ok ts2):=hw
        clear hw
        simp only
        have hdd:(d:Int)+1 - 1=(d:Int):=by omega
        go_enter Tryz.func120,Tryz.ntmps120
        go_wp2_with (first | (go_at_call 32;refine (take_any rb S i t.at' t.text x _ ((HR.out.alloc _).alloc _) (by omega)).mono ?_;rintro e w1 ⟨rfl,hR1,ho1⟩;have d9:=hR1.c9;rw [HC.out.op] at d9;have g9:=hR1.fz 9;have HR1:Hid (Rdr w1 rb S ((t.at'+t.text.length:Nat):Int) x):=hR1;clear hR1;have HO1:Hid (Only (·=rb) w w1):=HO0.out.trans ho1;have Z1:Hid (Xb w1 (w.heap.size+1) (.int .u8 0) (.int .u32 0) (.slice none 0 0)):=Z0.out.only ho1 (by omega);have hl1:=Z1.out.lt) | (go_at_call 85;have hc:=HE.out (d+1) p (x.withOp ((d+1:Nat):Int)) ts (w1.setCell ⟨rb,9,none⟩ (.int .i64 ((d:Int)+1))) ⟨_,HR1.out.set9 ((d:Int)+1),Rl.strm_tail Hs.out Hne.out,ht⟩ ((HM.out.only HO1.out HC.out.mb).setOther (fun e=>HC.out.mb e.symm) _) (HC.out.withOp (by omega)) (by omega);rw [T1.out] at hc;refine hc.mono ?_;clear hc;rintro e w2 ⟨v,rfl,hT2,hI2,ho2⟩;obtain ⟨o,s,a,k,c,rfl⟩:=hT2.form;have HT2:Hid (Tr w2 (fun b=>w1.heap.size≤b) ex (.agg #[.int .u8 o,.int .u32 s,.slice a k c])):=(by have:=hT2;simp only [World.setCell,Array.size_modify] at this;exact this);have HI2:Hid (In w2 rb S ((x.withOp ((d+1:Nat):Int)).withPl p1) ts1):=hI2;clear hT2 hI2;have HO2:Hid (Only (·=rb) w w2):=(HO1.out.setCell (p:=⟨rb,9,none⟩) rfl _).trans ho2;have Z2:Hid (Xb w2 (w.heap.size+1) (.int .u8 0) (.int .u32 0) (.slice none 0 0)):=(Z1.out.only ((Only.refl (·=rb) w1).setCell (p:=⟨rb,9,none⟩) rfl _) (by omega)).only ho2 (by omega);have hl2:=Z2.out.lt) | (go_at_call 33;have hc:=want_any 41 rb S ((x.withOp ((d+1:Nat):Int)).withPl p1) ts1 _ (HI2.out.alloc (.cells #[.int .u8 o,.int .u32 s,.slice a k c] 88)) hS;rw [T2.out] at hc;refine hc.mono ?_;clear hc;rintro e w3 ⟨rfl,hI3,ho3⟩;have HI3:Hid (In w3 rb S ((x.withOp ((d+1:Nat):Int)).withPl p1) ts2):=hI3;obtain ⟨i3,hR3,_,_⟩:=hI3;have d9:w3.cell? ⟨rb,9,none⟩=some (.int .i64 ((d:Int)+1)):=hR3.c9;have g9:=hR3.fz 9;clear hR3;have HO3:Hid (Only (·=rb) w w3):=(HO2.out.alloc _).trans ho3;have Z3:Hid (Xb w3 (w.heap.size+1) (.int .u8 0) (.int .u32 0) (.slice none 0 0)):=(Z2.out.alloc _).only ho3 (by omega);have C3:Hid (Xb w3 w2.heap.size (.int .u8 o) (.int .u32 s) (.slice a k c)):=(Xb.new w2 _ _ _).only ho3 (by omega);have x0:=C3.out.c0;have x1:=C3.out.c1;have x2:=C3.out.c2;have z0:=Z3.out.c0;have z1:=Z3.out.c1;have z2:=Z3.out.c2;have zf0:=Z3.out.fz 0;have zf1:=Z3.out.fz 1;have zf2:=Z3.out.fz 2;have hl3:=Z3.out.lt;have HT3:Hid (Tr w3 (fun b=>w1.heap.size≤b) ex (.agg #[.int .u8 o,.int .u32 s,.slice a k c])):=HT2.out.later (((Only.refl (·=rb) w2).alloc _).trans ho3) (fun b hb=>by omega) (fun b hb=>hb)))
        have hX:(((x.withOp ((d+1:Nat):Int)).withPl p1).withOp (d:Int))=x.withPl p1:=by
          have:=HC.out.op
          cases x
          simp only [Rd.withOp,Rd.withPl] at this ⊢
          rw [this]
        refine bodyPost_ret (v:=.agg #[.int .u8 o,.int .u32 s,.slice a k c]) (results_x rfl _ rfl (((Z3.out.only ((Only.refl (·=rb) w3).setCell (p:=⟨rb,9,none⟩) rfl (.int .i64 (d:Int))) (by omega))).set3 _ _ _)) rfl ?_
        refine ⟨_,rfl,?_,?_,(HO3.out.setCell (p:=⟨rb,9,none⟩) rfl _).set3 (z:=w.heap.size+1) (by omega) _ _ _⟩
        · refine HT3.out.keep fun b hb hl=>⟨by omega,?_⟩
          rw [show ∀ W:World,(((W.setCell ⟨w.heap.size+1,0,none⟩ (.int .u8 o)).setCell ⟨w.heap.size+1,1,none⟩ (.int .u32 s)).setCell ⟨w.heap.size+1,2,none⟩ (.slice a k c))=set3 W (w.heap.size+1) (.int .u8 o) (.int .u32 s) (.slice a k c) from fun _=>rfl]
          exact (set3_other _ _ _ _ (by omega)).trans (Below.heap_setCell _ _ _ _ (by show ¬ b=rb;omega))
        · rw [← hX]
          exact (HI3.out.set9 _).set3 (by omega) _ _ _
end Go.Proofs.YtchaoonefiamdaaGreatDoor
