/- Some Some2 Tree -/
import Derived.Test.YtchaoonefiamdaaGreatDoorZ06
import Derived.Maps.AppendAt
namespace Go.Proofs.YtchaoonefiamdaaGreatDoor
open Go.RowKit Go.Maps
set_option linter.unusedVariables false
set_option linter.unusedSimpArgs false
theorem In.setOther {w:World} {rb:Nat} {S:ByteArray} {x:Rd} {ts:List Rl.Tk} (h:In w rb S x ts) {p:Addr} (hp:p.block≠rb) (v:Value):In (w.setCell p v) rb S x ts:=by
  obtain ⟨i,h1,h2⟩:=h
  exact ⟨i,h1.setOther hp v,h2⟩
theorem In.drewN {w:World} {rb:Nat} {S:ByteArray} {x:Rd} {ts:List Rl.Tk} (h:In w rb S x ts) (n:Nat):In (w.drewN n) rb S x ts:=h
theorem In.drew {w:World} {rb:Nat} {S:ByteArray} {x:Rd} {ts:List Rl.Tk} (h:In w rb S x ts):In w.drew rb S x ts:=h
theorem beq_dec (a b:Rl.Str):(a == b)=decide (a=b):=by rw [Bool.eq_iff_iff];simp
theorem beg_eq (t:Rl.Tk):Rl.beg t=(Rl.isNm t || t.text == [46] || t.text == [91] || t.text == [40]):=by unfold Rl.beg;rw [beq_dec,beq_dec,beq_dec]
theorem pow24:∀ n:Fin 25,(2 ^ (n:Nat) % 4294967296 - 1) % 4294967296=((2:Int) ^ (n:Nat) - 1)∧(2:Int) ^ (n:Nat) % 4294967296=2 ^ (n:Nat)∧1≤(2:Int) ^ (n:Nat)∧(2:Int) ^ (n:Nat)≤16777216:=by decide
set_option maxRecDepth 100000 in
set_option maxHeartbeats 2000000 in
theorem begins_any (t:Rl.Tk) (w:World) (hs:t.text.length≤4096):Calls Tryz.prog 107 #[.agg #[.string (bs t.text),.int .i64 (t.at':Int)]] w fun e w'=>e=.returned (.bool (Rl.beg t))∧Only (fun _=>False) w w':=by
  have ht:=bs_toList t.text
  have h1:(⟨#[46]⟩:ByteArray).toList=[46]:=by rw [Lib.toList_data]
  have h2:(⟨#[91]⟩:ByteArray).toList=[91]:=by rw [Lib.toList_data]
  have h3:(⟨#[40]⟩:ByteArray).toList=[40]:=by rw [Lib.toList_data]
  have hB:Hid (Rl.beg t=(Rl.isNm t || t.text == [46] || t.text == [91] || t.text == [40])):=beg_eq t
  obtain ⟨b,hb⟩:∃ b,b=Rl.beg t:=⟨_,rfl⟩
  have HB:Hid (b=Rl.beg t):=hb
  rw [← hb]
  clear hb
  by_cases hnm:Rl.isNm t=true
  · have hq:decide (0 < Rl.nml t.text)=true:=hnm
    have HM:Hid (Rl.isNm t=true):=hnm
    clear hnm
    go_enter Tryz.func107,Tryz.ntmps107
    go_wp2_with (go_at_call 60;refine (isName_any t.text _ _ (by omega)).mono ?_;rintro e w2 ⟨rfl,ho2⟩)
    go_ret
    refine ⟨?_,((Only.refl _ w).alloc _).trans ho2⟩
    rw [HB.out,hB.out,HM.out]
    rfl
  · have hq:decide (0 < Rl.nml t.text)=false:=by simpa [isNm_iff] using hnm
    have HM:Hid (Rl.isNm t=false):=(by simpa using hnm:Rl.isNm t=false)
    clear hnm
    go_enter Tryz.func107,Tryz.ntmps107
    go_wp2_with (go_at_call 60;refine (isName_any t.text _ _ (by omega)).mono ?_;rintro e w2 ⟨rfl,ho2⟩;have P2:Hid (Pb w2 w.heap.size t.text t.at'):=(Pb.new w _ _).only ho2 (fun h=>h);have p0:=P2.out.c0)
    all_goals
      go_ret
      refine ⟨?_,((Only.refl _ w).alloc _).trans ho2⟩
      have:=hB.out
      rw [← HB.out,HM.out] at this
      refine congrArg (fun b=>Ending.returned (.bool b)) (?_:_=b)
      rw [this]
      simp [*]
set_option maxRecDepth 100000 in
set_option maxHeartbeats 2000000 in
theorem fresh_any (E:Rl.Env) (rb:Nat) (S:ByteArray) (x:Rd) (ts:List Rl.Tk) (w:World) (h:In w rb S x ts) (hS:S.size≤4096) (hM:Mp w x.mb E) (hmb:x.mb≠rb) :
    Calls Tryz.prog 61 #[.pointer (some ⟨rb,0,none⟩)] w (nameP rb S x w (Rl.fresh E ts)):=by
  have hn:=fun o=>name_any rb S x ts (w.alloc o) (h.alloc o) hS
  have hlt:=h.lt
  obtain ⟨i,_,hs,hi⟩:=h
  cases hnm:Rl.name ts with
  | error f =>
    have hF:Rl.fresh E ts=.error f:=by unfold Rl.fresh;rw [hnm]
    rw [hF]
    rw [hnm] at hn
    have HN:Hid (∀ o,Calls Tryz.prog 81 #[.pointer (some ⟨rb,0,none⟩)] (w.alloc o) (nameP rb S x (w.alloc o) (.error f))):=hn
    clear hF hnm hn hs
    go_enter Tryz.func61,Tryz.ntmps61
    go_wp2_with (go_at_call 81;refine (HN.out _).mono ?_;rintro e w1 ⟨rfl,ho1⟩)
    exact ⟨rfl,rfl,((Only.refl _ w).alloc _).trans ho1⟩
  | ok r =>
    obtain ⟨t,ts1⟩:=r
    obtain ⟨_,htl⟩:=name_len hs hnm
    rw [← Lib.size_eq] at htl
    rw [hnm] at hn
    have HN:Hid (∀ o,Calls Tryz.prog 81 #[.pointer (some ⟨rb,0,none⟩)] (w.alloc o) (nameP rb S x (w.alloc o) (.ok (t,ts1)))):=hn
    cases hf:Rl.find E t.text with
    | some b =>
      have hF:Rl.fresh E ts=.error (23,t.at'):=by unfold Rl.fresh;rw [hnm];simp only [hf];rfl
      rw [hF]
      have HF:Hid (Rl.find E t.text=some b):=hf
      clear hF hnm hn hs hf
      go_enter Tryz.func61,Tryz.ntmps61
      go_wp2_with (go_at_call 81;refine (HN.out _).mono ?_;rintro e w1 ⟨rfl,hi1,ho1⟩;have HI1:Hid (In w1 rb S x ts1):=hi1;obtain ⟨i1,hR1,_,_⟩:=hi1;have d7:=hR1.c7;have hlk:∀ n,(Instr.lookup 54 (.map (some x.mb)) (.string (bs t.text)) true).run Tryz.prog ((w1.alloc (.cells #[.string (bs t.text),.int .i64 (t.at':Int)] 79)).drewN n)=.ok (.tuple #[.int .u32 b,.bool true]) ((w1.alloc (.cells #[.string (bs t.text),.int .i64 (t.at':Int)] 79)).drewN n):=(fun n=>by have:=((((hM.alloc _).only ho1 hmb).alloc (.cells #[.string (bs t.text),.int .i64 (t.at':Int)] 79)).drewN n).look (s:=t.text) (by omega);rw [HF.out] at this;exact this);have hl1:=hR1.lt)
      go_quiet (fail)
      go_wp2_with (go_at_call 31;refine (throw_any 23 t.at' _).mono ?_;rintro e w3 ⟨rfl,rfl⟩)
      exact ⟨rfl,rfl,((((Only.refl _ w).alloc _).trans ho1).alloc _).drewN _⟩
    | none =>
      have hF:Rl.fresh E ts=.ok (t,ts1):=by unfold Rl.fresh;rw [hnm];simp only [hf];rfl
      rw [hF]
      have HF:Hid (Rl.find E t.text=none):=hf
      clear hF hnm hn hs hf
      go_enter Tryz.func61,Tryz.ntmps61
      go_wp2_with (go_at_call 81;refine (HN.out _).mono ?_;rintro e w1 ⟨rfl,hi1,ho1⟩;have HI1:Hid (In w1 rb S x ts1):=hi1;obtain ⟨i1,hR1,_,_⟩:=hi1;have d7:=hR1.c7;have hlk:∀ n,(Instr.lookup 54 (.map (some x.mb)) (.string (bs t.text)) true).run Tryz.prog ((w1.alloc (.cells #[.string (bs t.text),.int .i64 (t.at':Int)] 79)).drewN n)=.ok (.tuple #[.int .u32 0,.bool false]) ((w1.alloc (.cells #[.string (bs t.text),.int .i64 (t.at':Int)] 79)).drewN n):=(fun n=>by have:=((((hM.alloc _).only ho1 hmb).alloc (.cells #[.string (bs t.text),.int .i64 (t.at':Int)] 79)).drewN n).look (s:=t.text) (by omega);rw [HF.out] at this;exact this);have hl1:=hR1.lt;have Q3:Hid (Pb (w1.alloc (.cells #[.string (bs t.text),.int .i64 (t.at':Int)] 79)) w.heap.size [] 0):=((Pb.zero w).only ho1 (by omega)).alloc _;have q0:=Q3.out.c0;have q1:=Q3.out.c1;have qf0:=Q3.out.fz 0;have qf1:=Q3.out.fz 1;have hl2:=ho1.size;simp at hl2)
      go_quiet (fail)
      go_wp2_with fail
      refine bodyPost_ret (v:=.agg #[.string (bs t.text),.int .i64 (t.at':Int)]) (by simp [results,Tryz.results61,go_sem,q0,q1]) rfl ?_
      exact ⟨rfl,(((HI1.out.alloc _).drewN _).setOther (by show w.heap.size≠rb;omega) _).setOther (by show w.heap.size≠rb;omega) _,((((((Only.refl _ w).alloc _).trans ho1).alloc _).drewN _).setNew (Nat.le_refl _) _).setNew (Nat.le_refl _) _⟩
set_option maxRecDepth 100000 in
set_option maxHeartbeats 2000000 in
theorem all_any (n:Nat) (rb:Nat) (S:ByteArray) (i:Int) (x:Rd) (w:World) (hR:Rdr w rb S i x) (a:Option Addr) (cap:Nat) (hv:x.vC=.slice a n cap) (hn:n≤24) :
    Calls Tryz.prog 127 #[.pointer (some ⟨rb,0,none⟩)] w fun e w'=>e=.returned (.int .u32 (Rl.whole n))∧w'=w:=by
  have d2:=hR.c2
  rw [hv] at d2
  have hn':(n:Int)≤24:=by omega
  go_enter Tryz.func127,Tryz.ntmps127
  go_wp2_with fail
  go_ret
  exact ⟨congrArg (fun z=>Ending.returned (.int .u32 z)) (pow24 ⟨n,by omega⟩).1,rfl⟩
end Go.Proofs.YtchaoonefiamdaaGreatDoor
namespace Go.Proofs.YtchaoonefiamdaaGreatDoor
open Go.RowKit Go.Maps
set_option linter.unusedVariables false
set_option linter.unusedSimpArgs false
def Rd.withPl (x:Rd) (p:Int):Rd:={ x with pl:=p }
theorem Rdr.set8 {w:World} {rb:Nat} {S:ByteArray} {i:Int} {x:Rd} (h:Rdr w rb S i x) (v:Int):Rdr (w.setCell ⟨rb,8,none⟩ (.int .i64 v)) rb S i (x.withPl v):=heap_setCell_at h _
theorem In.set8 {w:World} {rb:Nat} {S:ByteArray} {x:Rd} {ts:List Rl.Tk} (h:In w rb S x ts) (v:Int):In (w.setCell ⟨rb,8,none⟩ (.int .i64 v)) rb S (x.withPl v) ts:=by
  obtain ⟨i,h1,h2⟩:=h
  exact ⟨i,h1.set8 v,h2⟩
theorem Mp.setOther {w:World} {mb:Nat} {E:Rl.Env} (h:Mp w mb E) {p:Addr} (hp:p.block≠mb) (v:Value):Mp (w.setCell p v) mb E:=h.only ((Only.refl (·=p.block) w).setCell (p:=p) rfl v) (fun e=>hp e.symm)
def someP (rb:Nat) (S:ByteArray) (x:Rd) (w:World) (F:Rl.R (Int × List Rl.Tk × Nat)) (e:Ending) (w':World):Prop :=
  match F with
  | .error f=>e=.panicked (thr f.1 f.2)∧Only (·=rb) w w'
  | .ok (b,ts,p)=>e=.returned (.int .u32 b)∧In w' rb S (x.withPl p) ts∧Only (·=rb) w w'
theorem took_cons (c:UInt8) (t:Rl.Tk) (ts:List Rl.Tk):Rl.took c (t :: ts)=if t.bad=true then .error (20,t.at') else if t.text=[c] then .ok (true,ts) else .ok (false,t :: ts):=rfl
theorem some_cons (E:Rl.Env) (nc:Nat) (t:Rl.Tk) (ts:List Rl.Tk) (p:Nat):Rl.some' E nc (t :: ts) p=if p=200 then .error (26,t.at') else if t.text=[46] then .ok (Rl.whole nc,ts,p+1) else if t.text=[91] then
      match Rl.took 94 ts with
      | .error f=>.error f
      | .ok (no,ts1)=>match Rl.names E ts1 0 with
        | .error f=>.error f
        | .ok (b,ts2)=>match Rl.want 93 ts2 with
          | .error f=>.error f
          | .ok ts3=>.ok (if no=true then Rl.without (Rl.whole nc) b else b,ts3,p+1)
    else match Rl.find E t.text with
      | none=>.error (22,t.at')
      | some b=>.ok (b,ts,p+1):=rfl
set_option maxRecDepth 100000 in
set_option maxHeartbeats 4000000 in
theorem some_any (E:Rl.Env) (nc p:Nat) (rb:Nat) (S:ByteArray) (x:Rd) (t:Rl.Tk) (ts:List Rl.Tk) (w:World) (h:In w rb S x (t :: ts)) (hS:S.size≤4096) (hM:Mp w x.mb E) (hmb:x.mb≠rb)
    (hb:¬ t.bad=true) (hbeg:Rl.beg t=true) (hno:t.text≠[40]) (hp:x.pl=(p:Int)) (hp2:p≤200) (a:Option Addr) (cap:Nat) (hv:x.vC=.slice a nc cap) (hnc:nc≤24) :
    Calls Tryz.prog 121 #[.pointer (some ⟨rb,0,none⟩)] w (someP rb S x w (Rl.some' E nc (t :: ts) p)):=by
  have HI:Hid (In w rb S x (t :: ts)):=h
  obtain ⟨i,hR,hs,hi⟩:=h
  have c8:=hR.c8
  have f8:=hR.fz 8
  rw [hp] at c8
  have HB:Hid (¬ t.bad=true):=hb
  clear hs hi hR
  rw [some_cons]
  by_cases h200:p=200
  · rw [if_pos h200]
    have q:((p:Int) == 200)=true:=by simp;omega
    clear h200
    go_enter Tryz.func121,Tryz.ntmps121
    go_wp2_with (go_at_call 30;refine (next_ok rb S x t ts _ HI.out hS HB.out).mono ?_;rintro e w2 ⟨rfl,hR2,hs2,he2,ho2⟩)
    rename_i hK
    refine hK _ _ ?_
    go_wp2_with (go_at_call 31;refine (throw_any 26 t.at' _).mono ?_;rintro e w3 ⟨rfl,rfl⟩)
    exact ⟨rfl,rfl,ho2⟩
  · rw [if_neg h200]
    have q:((p:Int) == 200)=false:=by simp;omega
    obtain ⟨y,hy⟩:∃ y,y=x.withPl ((p+1:Nat):Int):=⟨_,rfl⟩
    have HI1:Hid (In (w.setCell ⟨rb,8,none⟩ (.int .i64 ((p:Int)+1))) rb S y (t :: ts)):=by
      rw [hy]
      have e1:(p:Int)+1=((p+1:Nat):Int):=by omega
      rw [e1]
      exact HI.out.set8 _
    have HO1:Hid (Only (·=rb) w (w.setCell ⟨rb,8,none⟩ (.int .i64 ((p:Int)+1)))):=(Only.refl (·=rb) w).setCell (p:=⟨rb,8,none⟩) rfl _
    have HM1:Hid (Mp (w.setCell ⟨rb,8,none⟩ (.int .i64 ((p:Int)+1))) y.mb E):=by rw [hy];exact hM.setOther (fun e=>hmb e.symm) _
    have hmy:y.mb≠rb:=by rw [hy];exact hmb
    have hvy:Hid (y.vC=.slice a nc cap):=by rw [hy];exact hv
    have HY:Hid (y=x.withPl ((p+1:Nat):Int)):=hy
    have hp1:(p:Int) < 200:=by omega
    clear h200 hy hv hp
    by_cases h46:t.text=[46]
    · rw [if_pos h46]
      have T1:Hid (Rl.took 46 (t :: ts)=.ok (true,ts)):=by show Rl.took 46 (t :: ts)=.ok (true,ts);rw [took_cons,if_neg hb,if_pos h46]
      clear hb h46 hbeg hno
      go_enter Tryz.func121,Tryz.ntmps121
      go_wp2_with (first | (go_at_call 50;have hc:=took_any 46 rb S y (t :: ts) _ HI1.out hS;rw [T1.out] at hc;refine hc.mono ?_;clear hc;rintro e w2 ⟨rfl,hI2,ho2⟩;have HI2:Hid (In w2 rb S y ts):=hI2;obtain ⟨i2,hR2,_,_⟩:=hI2) | (go_at_call 127;refine (all_any nc rb S _ y _ hR2 a cap hvy.out hnc).mono ?_;rintro e w3 ⟨rfl,rfl⟩))
      go_ret
      refine ⟨rfl,?_,HO1.out.trans ho2⟩
      rw [← HY.out]
      exact HI2.out
    · rw [if_neg h46]
      have T1:Hid (Rl.took 46 (t :: ts)=.ok (false,t :: ts)):=by show Rl.took 46 (t :: ts)=.ok (false,t :: ts);rw [took_cons,if_neg hb,if_neg h46]
      by_cases h91:t.text=[91]
      · rw [if_pos h91]
        have T2:Hid (Rl.took 91 (t :: ts)=.ok (true,ts)):=by show Rl.took 91 (t :: ts)=.ok (true,ts);rw [took_cons,if_neg hb,if_pos h91]
        clear hb h46 h91 hbeg hno
        cases h94:Rl.took 94 ts with
        | error f =>
          have T3:Hid (Rl.took 94 ts=.error f):=h94
          clear h94
          simp only
          go_enter Tryz.func121,Tryz.ntmps121
          go_wp2_with (first | (go_at_call_of 50 (Value.string ⟨#[46]⟩);have hc:=took_any 46 rb S y (t :: ts) _ HI1.out hS;rw [T1.out] at hc;refine hc.mono ?_;clear hc;rintro e w2 ⟨rfl,hI2,ho2⟩;have HI2:Hid (In w2 rb S y (t :: ts)):=hI2;clear hI2) | (go_at_call_of 50 (Value.string ⟨#[91]⟩);have hc:=took_any 91 rb S y (t :: ts) _ HI2.out hS;rw [T2.out] at hc;refine hc.mono ?_;clear hc;rintro e w3 ⟨rfl,hI3,ho3⟩;have HI3:Hid (In w3 rb S y ts):=hI3;clear hI3) | (go_at_call_of 50 (Value.string ⟨#[94]⟩);have hc:=took_any 94 rb S y ts _ HI3.out hS;rw [T3.out] at hc;refine hc.mono ?_;clear hc;rintro e w4 ⟨rfl,ho4⟩))
          exact ⟨rfl,rfl,HO1.out.trans (ho2.trans (ho3.trans ho4))⟩
        | ok r =>
          obtain ⟨no,ts1⟩:=r
          have T3:Hid (Rl.took 94 ts=.ok (no,ts1)):=h94
          clear h94
          simp only
          cases hnm:Rl.names E ts1 0 with
          | error f =>
            have T4:Hid (Rl.names E ts1 0=.error f):=hnm
            clear hnm
            simp only
            go_enter Tryz.func121,Tryz.ntmps121
            go_wp2_with (first | (go_at_call_of 50 (Value.string ⟨#[46]⟩);have hc:=took_any 46 rb S y (t :: ts) _ HI1.out hS;rw [T1.out] at hc;refine hc.mono ?_;clear hc;rintro e w2 ⟨rfl,hI2,ho2⟩;have HI2:Hid (In w2 rb S y (t :: ts)):=hI2;clear hI2) | (go_at_call_of 50 (Value.string ⟨#[91]⟩);have hc:=took_any 91 rb S y (t :: ts) _ HI2.out hS;rw [T2.out] at hc;refine hc.mono ?_;clear hc;rintro e w3 ⟨rfl,hI3,ho3⟩;have HI3:Hid (In w3 rb S y ts):=hI3;clear hI3) | (go_at_call_of 50 (Value.string ⟨#[94]⟩);have hc:=took_any 94 rb S y ts _ HI3.out hS;rw [T3.out] at hc;refine hc.mono ?_;clear hc;rintro e w4 ⟨rfl,hI4,ho4⟩;have HI4:Hid (In w4 rb S y ts1):=hI4;clear hI4;have HO4:Hid (Only (·=rb) w w4):=HO1.out.trans (ho2.trans (ho3.trans ho4));have HM4:Hid (Mp w4 y.mb E):=HM1.out.only (ho2.trans (ho3.trans ho4)) hmy) | (go_at_call 63;have hc:=names_any E rb S y ts1 _ HI4.out hS HM4.out hmy;rw [T4.out] at hc;refine hc.mono ?_;clear hc;rintro e w5 ⟨rfl,ho5⟩))
            exact ⟨rfl,rfl,HO4.out.trans ho5⟩
          | ok r =>
            obtain ⟨b,ts2⟩:=r
            have T4:Hid (Rl.names E ts1 0=.ok (b,ts2)):=hnm
            clear hnm
            simp only
            cases hwt:Rl.want 93 ts2 with
            | error f =>
              have T5:Hid (Rl.want 93 ts2=.error f):=hwt
              clear hwt
              simp only
              go_enter Tryz.func121,Tryz.ntmps121
              go_wp2_with (first | (go_at_call_of 50 (Value.string ⟨#[46]⟩);have hc:=took_any 46 rb S y (t :: ts) _ HI1.out hS;rw [T1.out] at hc;refine hc.mono ?_;clear hc;rintro e w2 ⟨rfl,hI2,ho2⟩;have HI2:Hid (In w2 rb S y (t :: ts)):=hI2;clear hI2) | (go_at_call_of 50 (Value.string ⟨#[91]⟩);have hc:=took_any 91 rb S y (t :: ts) _ HI2.out hS;rw [T2.out] at hc;refine hc.mono ?_;clear hc;rintro e w3 ⟨rfl,hI3,ho3⟩;have HI3:Hid (In w3 rb S y ts):=hI3;clear hI3) | (go_at_call_of 50 (Value.string ⟨#[94]⟩);have hc:=took_any 94 rb S y ts _ HI3.out hS;rw [T3.out] at hc;refine hc.mono ?_;clear hc;rintro e w4 ⟨rfl,hI4,ho4⟩;have HI4:Hid (In w4 rb S y ts1):=hI4;clear hI4;have HO4:Hid (Only (·=rb) w w4):=HO1.out.trans (ho2.trans (ho3.trans ho4));have HM4:Hid (Mp w4 y.mb E):=HM1.out.only (ho2.trans (ho3.trans ho4)) hmy) | (go_at_call 63;have hc:=names_any E rb S y ts1 _ HI4.out hS HM4.out hmy;rw [T4.out] at hc;refine hc.mono ?_;clear hc;rintro e w5 ⟨rfl,hI5,ho5⟩;have HI5:Hid (In w5 rb S y ts2):=hI5;clear hI5) | (go_at_call 33;have hc:=want_any 93 rb S y ts2 _ HI5.out hS;rw [T5.out] at hc;refine hc.mono ?_;clear hc;rintro e w6 ⟨rfl,ho6⟩))
              exact ⟨rfl,rfl,HO4.out.trans (ho5.trans ho6)⟩
            | ok ts3 =>
              have T5:Hid (Rl.want 93 ts2=.ok ts3):=hwt
              clear hwt
              simp only
              cases no
              · go_enter Tryz.func121,Tryz.ntmps121
                go_wp2_with (first | (go_at_call_of 50 (Value.string ⟨#[46]⟩);have hc:=took_any 46 rb S y (t :: ts) _ HI1.out hS;rw [T1.out] at hc;refine hc.mono ?_;clear hc;rintro e w2 ⟨rfl,hI2,ho2⟩;have HI2:Hid (In w2 rb S y (t :: ts)):=hI2;clear hI2) | (go_at_call_of 50 (Value.string ⟨#[91]⟩);have hc:=took_any 91 rb S y (t :: ts) _ HI2.out hS;rw [T2.out] at hc;refine hc.mono ?_;clear hc;rintro e w3 ⟨rfl,hI3,ho3⟩;have HI3:Hid (In w3 rb S y ts):=hI3;clear hI3) | (go_at_call_of 50 (Value.string ⟨#[94]⟩);have hc:=took_any 94 rb S y ts _ HI3.out hS;rw [T3.out] at hc;refine hc.mono ?_;clear hc;rintro e w4 ⟨rfl,hI4,ho4⟩;have HI4:Hid (In w4 rb S y ts1):=hI4;clear hI4;have HO4:Hid (Only (·=rb) w w4):=HO1.out.trans (ho2.trans (ho3.trans ho4));have HM4:Hid (Mp w4 y.mb E):=HM1.out.only (ho2.trans (ho3.trans ho4)) hmy) | (go_at_call 63;have hc:=names_any E rb S y ts1 _ HI4.out hS HM4.out hmy;rw [T4.out] at hc;refine hc.mono ?_;clear hc;rintro e w5 ⟨rfl,hI5,ho5⟩;have HI5:Hid (In w5 rb S y ts2):=hI5;clear hI5) | (go_at_call 33;have hc:=want_any 93 rb S y ts2 _ HI5.out hS;rw [T5.out] at hc;refine hc.mono ?_;clear hc;rintro e w6 ⟨rfl,hI6,ho6⟩))
                go_ret
                refine ⟨rfl,?_,HO4.out.trans (ho5.trans ho6)⟩
                rw [← HY.out]
                exact hI6
              · go_enter Tryz.func121,Tryz.ntmps121
                go_wp2_with (first | (go_at_call_of 50 (Value.string ⟨#[46]⟩);have hc:=took_any 46 rb S y (t :: ts) _ HI1.out hS;rw [T1.out] at hc;refine hc.mono ?_;clear hc;rintro e w2 ⟨rfl,hI2,ho2⟩;have HI2:Hid (In w2 rb S y (t :: ts)):=hI2;clear hI2) | (go_at_call_of 50 (Value.string ⟨#[91]⟩);have hc:=took_any 91 rb S y (t :: ts) _ HI2.out hS;rw [T2.out] at hc;refine hc.mono ?_;clear hc;rintro e w3 ⟨rfl,hI3,ho3⟩;have HI3:Hid (In w3 rb S y ts):=hI3;clear hI3) | (go_at_call_of 50 (Value.string ⟨#[94]⟩);have hc:=took_any 94 rb S y ts _ HI3.out hS;rw [T3.out] at hc;refine hc.mono ?_;clear hc;rintro e w4 ⟨rfl,hI4,ho4⟩;have HI4:Hid (In w4 rb S y ts1):=hI4;clear hI4;have HO4:Hid (Only (·=rb) w w4):=HO1.out.trans (ho2.trans (ho3.trans ho4));have HM4:Hid (Mp w4 y.mb E):=HM1.out.only (ho2.trans (ho3.trans ho4)) hmy) | (go_at_call 63;have hc:=names_any E rb S y ts1 _ HI4.out hS HM4.out hmy;rw [T4.out] at hc;refine hc.mono ?_;clear hc;rintro e w5 ⟨rfl,hI5,ho5⟩;have HI5:Hid (In w5 rb S y ts2):=hI5;clear hI5) | (go_at_call 33;have hc:=want_any 93 rb S y ts2 _ HI5.out hS;rw [T5.out] at hc;refine hc.mono ?_;clear hc;rintro e w6 ⟨rfl,hI6,ho6⟩;have HI6:Hid (In w6 rb S y ts3):=hI6;obtain ⟨i6,hR6,_,_⟩:=hI6) | (go_at_call 127;refine (all_any nc rb S _ y _ hR6 a cap hvy.out hnc).mono ?_;rintro e w7 ⟨rfl,rfl⟩))
                go_ret
                refine ⟨rfl,?_,HO4.out.trans (ho5.trans ho6)⟩
                rw [← HY.out]
                exact HI6.out
      · rw [if_neg h91]
        have T2:Hid (Rl.took 91 (t :: ts)=.ok (false,t :: ts)):=by show Rl.took 91 (t :: ts)=.ok (false,t :: ts);rw [took_cons,if_neg hb,if_neg h91]
        have hnm:Rl.isNm t=true:=by
          unfold Rl.beg at hbeg
          simpa [h46,h91,hno] using hbeg
        cases hf:Rl.find E t.text with
        | none =>
          have T3:Hid (clsF E (t :: ts)=.error (22,t.at')):=clsF_none hb hnm hf
          clear hb h46 h91 hbeg hno hf hnm
          simp only
          go_enter Tryz.func121,Tryz.ntmps121
          go_wp2_with (first | (go_at_call_of 50 (Value.string ⟨#[46]⟩);have hc:=took_any 46 rb S y (t :: ts) _ HI1.out hS;rw [T1.out] at hc;refine hc.mono ?_;clear hc;rintro e w2 ⟨rfl,hI2,ho2⟩;have HI2:Hid (In w2 rb S y (t :: ts)):=hI2;clear hI2) | (go_at_call_of 50 (Value.string ⟨#[91]⟩);have hc:=took_any 91 rb S y (t :: ts) _ HI2.out hS;rw [T2.out] at hc;refine hc.mono ?_;clear hc;rintro e w3 ⟨rfl,hI3,ho3⟩;have HI3:Hid (In w3 rb S y (t :: ts)):=hI3;clear hI3;have HO3:Hid (Only (·=rb) w w3):=HO1.out.trans (ho2.trans ho3);have HM3:Hid (Mp w3 y.mb E):=HM1.out.only (ho2.trans ho3) hmy) | (go_at_call 83;have hc:=classes_any E rb S y (t :: ts) _ HI3.out hS HM3.out hmy;rw [T3.out] at hc;refine hc.mono ?_;clear hc;rintro e w4 ⟨rfl,ho4⟩))
          exact ⟨rfl,rfl,HO3.out.trans ho4⟩
        | some b =>
          have T3:Hid (clsF E (t :: ts)=.ok (b,ts)):=clsF_some hb hnm hf
          clear hb h46 h91 hbeg hno hf hnm
          simp only
          go_enter Tryz.func121,Tryz.ntmps121
          go_wp2_with (first | (go_at_call_of 50 (Value.string ⟨#[46]⟩);have hc:=took_any 46 rb S y (t :: ts) _ HI1.out hS;rw [T1.out] at hc;refine hc.mono ?_;clear hc;rintro e w2 ⟨rfl,hI2,ho2⟩;have HI2:Hid (In w2 rb S y (t :: ts)):=hI2;clear hI2) | (go_at_call_of 50 (Value.string ⟨#[91]⟩);have hc:=took_any 91 rb S y (t :: ts) _ HI2.out hS;rw [T2.out] at hc;refine hc.mono ?_;clear hc;rintro e w3 ⟨rfl,hI3,ho3⟩;have HI3:Hid (In w3 rb S y (t :: ts)):=hI3;clear hI3;have HO3:Hid (Only (·=rb) w w3):=HO1.out.trans (ho2.trans ho3);have HM3:Hid (Mp w3 y.mb E):=HM1.out.only (ho2.trans ho3) hmy) | (go_at_call 83;have hc:=classes_any E rb S y (t :: ts) _ HI3.out hS HM3.out hmy;rw [T3.out] at hc;refine hc.mono ?_;clear hc;rintro e w4 ⟨rfl,hI4,ho4⟩))
          go_ret
          refine ⟨rfl,?_,HO3.out.trans ho4⟩
          rw [← HY.out]
          exact hI4
end Go.Proofs.YtchaoonefiamdaaGreatDoor
namespace Go.Proofs.YtchaoonefiamdaaGreatDoor
open Go.RowKit Go.Maps
set_option linter.unusedVariables false
set_option linter.unusedSimpArgs false
mutual
def Tr (w:World) (F:Nat→Prop):Rl.Ex→Value→Prop
  | .mk op set kids,v=>∃ (a:Option Addr) (cap:Nat),v=.agg #[.int .u8 op,.int .u32 set,.slice a kids.length cap]∧kids.length≤cap ∧
      (kids≠[]→∃ b cs z,a=some ⟨b,0,none⟩∧F b∧w.heap[b]?=some (.cells cs 88 z)∧Trs w F kids (fun j=>cs[j]?))
def Trs (w:World) (F:Nat→Prop):List Rl.Ex→(Nat→Option Value)→Prop
  | [],_=>True
  | e :: es,c=>(∃ o s k,c 0=some o∧c 1=some s∧c 2=some k∧Tr w F e (.agg #[o,s,k]))∧Trs w F es (fun j=>c (j+3))
end
theorem Tr.form {w:World} {F:Nat→Prop} {e:Rl.Ex} {v:Value} (h:Tr w F e v):∃ op set a n cap,v=.agg #[.int .u8 op,.int .u32 set,.slice a n cap]:=by
  obtain ⟨op,set,kids⟩:=e
  unfold Tr at h
  obtain ⟨a,cap,h1,_⟩:=h
  exact ⟨op,set,a,kids.length,cap,h1⟩
mutual
theorem Tr.keepT {w w':World} {F F':Nat→Prop} (hk:∀ b,F b→b < w.heap.size→(∃ cs z,w.heap[b]?=some (.cells cs 88 z))→F' b∧w'.heap[b]?=w.heap[b]?):∀ (e:Rl.Ex) (v:Value),Tr w F e v→Tr w' F' e v
  | .mk op set kids,v,h=>by
    unfold Tr at h ⊢
    obtain ⟨a,cap,h1,hc,h2⟩:=h
    refine ⟨a,cap,h1,hc,fun hn=>?_⟩
    obtain ⟨b,cs,z,h3,h4,h5,h6⟩:=h2 hn
    have hb:=hk b h4 (Array.getElem?_eq_some_iff.1 h5).1 ⟨cs,z,h5⟩
    exact ⟨b,cs,z,h3,hb.1,hb.2.trans h5,Trs.keepT hk kids _ h6⟩
theorem Trs.keepT {w w':World} {F F':Nat→Prop} (hk:∀ b,F b→b < w.heap.size→(∃ cs z,w.heap[b]?=some (.cells cs 88 z))→F' b∧w'.heap[b]?=w.heap[b]?):∀ (es:List Rl.Ex) (c:Nat→Option Value),Trs w F es c→Trs w' F' es c
  | [],_,_=>by unfold Trs;trivial
  | e :: es,c,h=>by
    unfold Trs at h ⊢
    obtain ⟨⟨o,s,k,h0,h1,h2,h3⟩,h4⟩:=h
    exact ⟨⟨o,s,k,h0,h1,h2,Tr.keepT hk e _ h3⟩,Trs.keepT hk es _ h4⟩
end
theorem Tr.keep {w w':World} {F F':Nat→Prop} (hk:∀ b,F b→b < w.heap.size→F' b∧w'.heap[b]?=w.heap[b]?) (e:Rl.Ex) (v:Value) (h:Tr w F e v):Tr w' F' e v:=Tr.keepT (fun b h1 h2 _=>hk b h1 h2) e v h
theorem Trs.keep {w w':World} {F F':Nat→Prop} (hk:∀ b,F b→b < w.heap.size→F' b∧w'.heap[b]?=w.heap[b]?) (es:List Rl.Ex) (c:Nat→Option Value) (h:Trs w F es c):Trs w' F' es c:=Trs.keepT (fun b h1 h2 _=>hk b h1 h2) es c h
theorem Trs.cong {w:World} {F:Nat→Prop}:∀ (es:List Rl.Ex) {c c':Nat→Option Value},(∀ j,j < 3*es.length→c j=c' j)→Trs w F es c→Trs w F es c'
  | [],_,_,_,_=>by unfold Trs;trivial
  | e :: es,c,c',hc,h=>by
    unfold Trs at h ⊢
    simp only [List.length_cons] at hc
    obtain ⟨⟨o,s,k,h0,h1,h2,h3⟩,h4⟩:=h
    exact ⟨⟨o,s,k,(hc 0 (by omega)).symm.trans h0,(hc 1 (by omega)).symm.trans h1,(hc 2 (by omega)).symm.trans h2,h3⟩,Trs.cong es (fun j hj=>hc (j+3) (by omega)) h4⟩
theorem Trs.snoc {w:World} {F:Nat→Prop} {e:Rl.Ex} {o s k:Value} (he:Tr w F e (.agg #[o,s,k])):∀ (es:List Rl.Ex) (xs:List Value),xs.length=3*es.length→Trs w F es (fun j=>xs[j]?)→Trs w F (es++[e]) (fun j=>(xs++[o,s,k])[j]?)
  | [],xs,hl,_=>by
    obtain rfl:xs=[]:=List.length_eq_zero_iff.1 (by simpa using hl)
    show Trs w F [e] _
    unfold Trs
    exact ⟨⟨o,s,k,rfl,rfl,rfl,he⟩,by unfold Trs;trivial⟩
  | d :: es,xs,hl,h=>by
    rw [List.cons_append]
    unfold Trs at h ⊢
    simp only [List.length_cons] at hl
    match xs,hl,h with
    | a :: b :: c :: xs,hl,h =>
      obtain ⟨⟨o1,s1,k1,h0,h1,h2,h3⟩,h4⟩:=h
      refine ⟨⟨o1,s1,k1,h0,h1,h2,h3⟩,?_⟩
      have:=Trs.snoc he es xs (by simp at hl;omega) (Trs.cong es (fun j _=>by simp) h4)
      exact Trs.cong (es++[e]) (fun j _=>by simp) this
    | [_,_],hl,_=>simp at hl;omega
    | [_],hl,_=>simp at hl;omega
    | [],hl,_=>simp at hl
theorem Trs.one {w:World} {F:Nat→Prop} {e:Rl.Ex} {xs:List Value} (h:Trs w F [e] (fun j=>xs[j]?)) (hl:xs.length=3):∃ o s k,xs=[o,s,k]∧Tr w F e (.agg #[o,s,k]):=by
  unfold Trs at h
  obtain ⟨⟨o,s,k,h0,h1,h2,h3⟩,_⟩:=h
  match xs,hl,h0,h1,h2 with
  | [a,b,c],_,h0,h1,h2 =>
    simp at h0 h1 h2
    subst h0 h1 h2
    exact ⟨_,_,_,rfl,h3⟩
theorem Tr.row {w:World} {F F':Nat→Prop} {base:Nat} {v:Value} {es:List Rl.Ex} {xs:List Value} (op:Int) (ho:w.ownsRow base 88 3 v es.length xs) (ht:Trs w F es (fun j=>xs[j]?)) (hv:∀ g,v.ownBlock=some g→F' g) (hF:∀ b,F b→F' b) (hne:es≠[]) :
    Tr w F' (.mk op 0 es) (.agg #[.int .u8 op,.int .u32 0,v]):=by
  obtain ⟨hl,⟨_,h0⟩ | ⟨g,cap,cur,rfl,h1,h2,h3,h4,h5,h6⟩⟩:=ho
  · exact absurd (List.length_eq_zero_iff.1 h0) hne
  · unfold Tr
    refine ⟨some ⟨g,0,none⟩,cap,rfl,h3,fun _=>⟨g,cur,(0,0),rfl,hv g rfl,h2,?_⟩⟩
    have h7:=Trs.keep (w':=w) (F':=F') (fun b hb _=>⟨hF b hb,rfl⟩) es _ ht
    refine Trs.cong es (fun j hj=>?_) h7
    show xs[j]?=cur[j]?
    rw [← h6,List.getElem?_take,if_pos (by omega)]
    simp
theorem info50:(Tryz.prog.info? 88).map (fun i=>(i.zero,i.size,i.bytes))=some (some (.agg #[.int .u8 0,.int .u32 0,.slice none 0 0]),3,32):=by kernel_rfl
theorem info_parts {P:Program} {e:TypeId} {z:Value} {n b:Nat} (h:(P.info? e).map (fun i=>(i.zero,i.size,i.bytes))=some (some z,n,b)):∃ i,P.info? e=some i∧i.zero=some z∧i.size=n∧i.bytes=b:=by
  cases hi:P.info? e with
  | none=>rw [hi] at h;cases h
  | some i =>
    rw [hi] at h
    simp only [Option.map_some,Option.some.injEq,Prod.mk.injEq] at h
    exact ⟨i,rfl,h.1,h.2.1,h.2.2⟩
theorem ex_news (wr:World) (o s:Int) (k:Value):∀ j u,[Value.int .u8 o,Value.int .u32 s,k][j]?=some u→(wr.alloc (.cells #[.int .u8 o,.int .u32 s,k] 88)).cell? ((⟨wr.heap.size,0,none⟩:Addr).add j)=some u:=by
  intro j u hj
  rw [Addr.add_mid,Nat.zero_add,cell_of_row _ _ _ _ _ _ (heap_alloc_new _ _)]
  simpa using hj
theorem ex_cells (o s:Int) (a:Option Addr) (n c:Nat):∀ u∈[Value.int .u8 o,Value.int .u32 s,Value.slice a n c],u.oneCell'=true:=by
  intro u hu
  simp at hu
  rcases hu with rfl | rfl | rfl <;> rfl
def Xb (w:World) (b:Nat) (o s k:Value):Prop:=w.heap[b]?=some (.cells #[o,s,k] 88 (0,0))
theorem Xb.new (w:World) (o s k:Value):Xb (w.alloc (.cells #[o,s,k] 88)) w.heap.size o s k:=heap_alloc_new _ _
theorem Xb.fz {w:World} {b:Nat} {o s k:Value} (h:Xb w b o s k) (j:Nat):w.frozen? ⟨b,j,none⟩=false:=by simp [World.frozen?,show w.heap[b]?=_ from h]
theorem Xb.c0 {w:World} {b:Nat} {o s k:Value} (h:Xb w b o s k):w.cell? ⟨b,0,none⟩=some o:=(cell_of_row _ _ _ _ _ _ h).trans rfl
theorem Xb.c1 {w:World} {b:Nat} {o s k:Value} (h:Xb w b o s k):w.cell? ⟨b,1,none⟩=some s:=(cell_of_row _ _ _ _ _ _ h).trans rfl
theorem Xb.c2 {w:World} {b:Nat} {o s k:Value} (h:Xb w b o s k):w.cell? ⟨b,2,none⟩=some k:=(cell_of_row _ _ _ _ _ _ h).trans rfl
theorem Xb.lt {w:World} {b:Nat} {o s k:Value} (h:Xb w b o s k):b < w.heap.size:=(Array.getElem?_eq_some_iff.1 h).1
theorem Xb.only {w w':World} {b:Nat} {o s k:Value} {P:Nat→Prop} (h:Xb w b o s k) (ho:Only P w w') (hn:¬ P b):Xb w' b o s k:=(ho.block b h.lt hn).trans h
theorem Xb.alloc {w:World} {b:Nat} {o s k:Value} (h:Xb w b o s k) (ob:Obj):Xb (w.alloc ob) b o s k:=(Below.heap_alloc _ _ _ h.lt).trans h
def exprP (rb:Nat) (S:ByteArray) (x:Rd) (w:World) (F:Rl.R (Rl.Ex × List Rl.Tk × Nat)) (e:Ending) (w':World):Prop :=
  match F with
  | .error f=>e=.panicked (thr f.1 f.2)∧Only (·=rb) w w'
  | .ok (ex,ts,p)=>∃ v,e=.returned v∧Tr w' (fun b=>w.heap.size≤b) ex v∧In w' rb S (x.withPl p) ts∧Only (·=rb) w w'
def oftP (rb:Nat) (S:ByteArray) (x:Rd) (F:Nat→Prop) (w:World) (R:Rl.R (Rl.Ex × List Rl.Tk)) (e:Ending) (w':World):Prop :=
  match R with
  | .error f=>e=.panicked (thr f.1 f.2)∧Only (·=rb) w w'
  | .ok (ex,ts)=>∃ v,e=.returned v∧Tr w' (fun b=>F b∨w.heap.size≤b) ex v∧In w' rb S x ts∧Only (·=rb) w w'
end Go.Proofs.YtchaoonefiamdaaGreatDoor
