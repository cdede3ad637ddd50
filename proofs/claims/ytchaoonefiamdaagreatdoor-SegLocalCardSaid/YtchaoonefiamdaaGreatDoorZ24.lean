/- Lines3 -/
import Derived.Test.YtchaoonefiamdaaGreatDoorZ23
namespace Go.Proofs.YtchaoonefiamdaaGreatDoor
open Go.RowKit Go.Maps
set_option linter.unusedVariables false
set_option linter.unusedSimpArgs false
theorem lines_cons (n:Nat) (t:Rl.Tk) (ts:List Rl.Tk) (s:Rl.St):Rl.lines (n+1) (t :: ts) s=if t.bad=true then .error (20,t.at') else if t.text=[] then .ok s else match Rl.line t ts s with
    | .error f=>.error f
    | .ok (ts1,s1)=>match Rl.want 59 ts1 with
      | .error f=>.error f
      | .ok ts2=>Rl.lines n ts2 s1:=rfl
def linesP (rb:Nat) (S:ByteArray) (mb:Nat) (w:World) (F:Rl.R Rl.St) (e:Ending) (w':World):Prop :=
  match F with
  | .error f=>e=.panicked (thr f.1 f.2)∧Fr rb mb w w'
  | .ok s=>e=.returned (.tuple #[])∧∃ x,x.mb=mb∧(∃ i:Int,Rdr w' rb S i x)∧Stt w' rb x s∧Fr rb mb w w'
theorem Kn.fr {w w':World} {kb rb mb:Nat} (h:Kn w kb) (ho:Fr rb mb w w') (hn:kb≠mb):Kn w' kb:=by
  obtain ⟨es,cl,h1,h2⟩:=h
  exact ⟨es,cl,(ho.2 kb es cl h1 hn).trans h1,h2⟩
theorem Kn.cell {w:World} {kb g:Nat} (h:Kn w kb) (hc:Cl w g):kb≠g:=by
  intro e
  subst e
  obtain ⟨es,cl,h1,h2⟩:=h
  exact hc.no h1
theorem kn_wClass {w:World} {kb:Nat} (h:Kn w kb):(Instr.lookup 76 (.map (some kb)) (.string (bs Rl.wClass)) true).run Tryz.prog w=.ok (.tuple #[.func (.func 40) #[] #[],.bool true]) w:=by
  obtain ⟨v,ps,h1,h2⟩:=h.look (s:=Rl.wClass) (by decide)
  have e1:Maps.has kindsD (.string Rl.wClass)=true:=by kernel_rfl
  have e2:kindsD.atKey (.string Rl.wClass) (.lit (.int .i64 (-1)))=fnLit 40:=by kernel_rfl
  rw [e2] at h2
  rw [e1,Rf_inv h2] at h1
  exact h1
theorem kn_wSet {w:World} {kb:Nat} (h:Kn w kb):(Instr.lookup 76 (.map (some kb)) (.string (bs Rl.wSet)) true).run Tryz.prog w=.ok (.tuple #[.func (.func 41) #[] #[],.bool true]) w:=by
  obtain ⟨v,ps,h1,h2⟩:=h.look (s:=Rl.wSet) (by decide)
  have e1:Maps.has kindsD (.string Rl.wSet)=true:=by kernel_rfl
  have e2:kindsD.atKey (.string Rl.wSet) (.lit (.int .i64 (-1)))=fnLit 41:=by kernel_rfl
  rw [e2] at h2
  rw [e1,Rf_inv h2] at h1
  exact h1
theorem kn_wJoin {w:World} {kb:Nat} (h:Kn w kb):(Instr.lookup 76 (.map (some kb)) (.string (bs Rl.wJoin)) true).run Tryz.prog w=.ok (.tuple #[.func (.func 42) #[] #[],.bool true]) w:=by
  obtain ⟨v,ps,h1,h2⟩:=h.look (s:=Rl.wJoin) (by decide)
  have e1:Maps.has kindsD (.string Rl.wJoin)=true:=by kernel_rfl
  have e2:kindsD.atKey (.string Rl.wJoin) (.lit (.int .i64 (-1)))=fnLit 42:=by kernel_rfl
  rw [e2] at h2
  rw [e1,Rf_inv h2] at h1
  exact h1
theorem kn_wTreat {w:World} {kb:Nat} (h:Kn w kb):(Instr.lookup 76 (.map (some kb)) (.string (bs Rl.wTreat)) true).run Tryz.prog w=.ok (.tuple #[.func (.func 43) #[] #[],.bool true]) w:=by
  obtain ⟨v,ps,h1,h2⟩:=h.look (s:=Rl.wTreat) (by decide)
  have e1:Maps.has kindsD (.string Rl.wTreat)=true:=by kernel_rfl
  have e2:kindsD.atKey (.string Rl.wTreat) (.lit (.int .i64 (-1)))=fnLit 43:=by kernel_rfl
  rw [e2] at h2
  rw [e1,Rf_inv h2] at h1
  exact h1
theorem kn_wKeep {w:World} {kb:Nat} (h:Kn w kb):(Instr.lookup 76 (.map (some kb)) (.string (bs Rl.wKeep)) true).run Tryz.prog w=.ok (.tuple #[.func (.func 44) #[] #[],.bool true]) w:=by
  obtain ⟨v,ps,h1,h2⟩:=h.look (s:=Rl.wKeep) (by decide)
  have e1:Maps.has kindsD (.string Rl.wKeep)=true:=by kernel_rfl
  have e2:kindsD.atKey (.string Rl.wKeep) (.lit (.int .i64 (-1)))=fnLit 44:=by kernel_rfl
  rw [e2] at h2
  rw [e1,Rf_inv h2] at h1
  exact h1
theorem kn_wMay {w:World} {kb:Nat} (h:Kn w kb):(Instr.lookup 76 (.map (some kb)) (.string (bs Rl.wMay)) true).run Tryz.prog w=.ok (.tuple #[.func (.func 45) #[] #[],.bool true]) w:=by
  obtain ⟨v,ps,h1,h2⟩:=h.look (s:=Rl.wMay) (by decide)
  have e1:Maps.has kindsD (.string Rl.wMay)=true:=by kernel_rfl
  have e2:kindsD.atKey (.string Rl.wMay) (.lit (.int .i64 (-1)))=fnLit 45:=by kernel_rfl
  rw [e2] at h2
  rw [e1,Rf_inv h2] at h1
  exact h1
theorem kn_wMust {w:World} {kb:Nat} (h:Kn w kb):(Instr.lookup 76 (.map (some kb)) (.string (bs Rl.wMust)) true).run Tryz.prog w=.ok (.tuple #[.func (.func 46) #[] #[],.bool true]) w:=by
  obtain ⟨v,ps,h1,h2⟩:=h.look (s:=Rl.wMust) (by decide)
  have e1:Maps.has kindsD (.string Rl.wMust)=true:=by kernel_rfl
  have e2:kindsD.atKey (.string Rl.wMust) (.lit (.int .i64 (-1)))=fnLit 46:=by kernel_rfl
  rw [e2] at h2
  rw [e1,Rf_inv h2] at h1
  exact h1
set_option maxRecDepth 100000 in
set_option maxHeartbeats 8000000 in
theorem lines_any (rb:Nat) (S:ByteArray) (x:Rd) (s:Rl.St) (ts:List Rl.Tk) (n:Nat) (w:World) (h:In w rb S x ts) (hS:S.size≤4096) (hT:Stt w rb x s) (hen:s.env.length+ts.length≤5000) (hn:ts.length < n) :
    Calls Tryz.prog 16 #[.pointer (some ⟨rb,0,none⟩)] w (linesP rb S x.mb w (Rl.lines n ts s)):=by
  have hlt:=h.lt
  have HI:Hid (In w rb S x ts):=h
  have HS:Hid (Stt w rb x s):=hT
  have hmbl:=hT.mb
  have hkm:w.heap.size≠x.mb:=by omega
  obtain ⟨F,hF⟩:∃ F,F=Rl.lines n ts s:=⟨_,rfl⟩
  have HF:Hid (F=Rl.lines n ts s):=hF
  rw [← hF]
  clear hF hT h
  have hnil:(⟨#[]⟩:ByteArray).toList=[]:=by rw [Lib.toList_data]
  go_enter Tryz.func16,Tryz.ntmps16
  go_wp2_with (go_at_call 29;refine (kinds_any _).mono ?_;rintro e w0 ⟨rfl,hK0,ho0⟩;have HK0:Hid (Kn w0 w.heap.size):=hK0;have HO0:Hid (Only (fun _=>False) w w0):=ho0;clear hK0 ho0)
  go_loopg [] ts.length (fun g wr=>∃ (tsr:List Rl.Tk) (xr:Rd) (sr:Rl.St) (m:Nat),g=tsr.length∧xr.mb=x.mb∧In wr rb S xr tsr∧Stt wr rb xr sr∧Fr rb x.mb w wr∧Kn wr w.heap.size∧sr.env.length+tsr.length≤5000∧tsr.length < m∧Hid (F=Rl.lines m tsr sr))
  case atStart=>exact ⟨ts,x,s,n,rfl,rfl,HI.out.only HO0.out (fun h=>h),HS.out.only (HO0.out.mono (fun _ h=>h.elim)),HO0.out.fr0 _ _,HK0.out,hen,hn,HF.out⟩
  case round =>
    obtain ⟨tsr,xr,sr,m,rfl,hmb,hIr,hSr,hOr,hKr,henr,hmr,hFr⟩:=hrel
    cases tsr with
    | nil=>obtain ⟨i,_,h2,_⟩:=hIr;exact h2.elim
    | cons t tsr =>
      obtain ⟨m,rfl⟩:∃ k,m=k+1:=⟨m - 1,by omega⟩
      have HMb:Hid (xr.mb=x.mb):=hmb
      have HIr:Hid (In wr rb S xr (t :: tsr)):=hIr
      have HSr:Hid (Stt wr rb xr sr):=hSr
      have HOr:Hid (Fr rb x.mb w wr):=hOr
      have HKr:Hid (Kn wr w.heap.size):=hKr
      have hFr':=hFr.out
      have hp200:=hSr.p200
      rw [lines_cons] at hFr'
      simp only [List.length_cons] at henr hmr
      have htx:=bs_toList t.text
      clear hmb hIr hSr hOr hFr hKr
      by_cases hb:t.bad=true
      · have HB:Hid (t.bad=true):=hb
        rw [if_pos hb] at hFr'
        have HE:Hid (F=.error (20,t.at')):=hFr'
        clear hb hFr'
        go_wp2_with (go_at_call 30;refine (next_bad rb S xr t tsr _ HIr.out hS HB.out).mono ?_;rintro e w1 ⟨rfl,ho1⟩)
        refine ⟨rfl,?_⟩
        rw [HE.out]
        exact ⟨rfl,HOr.out.trans (ho1.fr HIr.out.cl _)⟩
      · have HB:Hid (¬ t.bad=true):=hb
        rw [if_neg hb] at hFr'
        by_cases hte:t.text=[]
        · rw [if_pos hte] at hFr'
          have HE:Hid (F=.ok sr):=hFr'
          have q:t.text.isEmpty=true:=by rw [hte];rfl
          have q2:(t.text == [])=true:=by rw [hte];rfl
          clear hb hFr' hte
          go_wp2_with (go_at_call 30;refine (next_ok rb S xr t tsr _ HIr.out hS HB.out).mono ?_;rintro e w1 ⟨rfl,hR1,hs1,he1,ho1⟩;have HR1:Hid (Rdr w1 rb S (t.at':Int) xr):=hR1;clear hR1 hs1)
          first | go_end0 | refine bodyPost_ret (results_none rfl _ _ _) rfl ?_
          rw [HE.out]
          exact ⟨rfl,xr,HMb.out,⟨_,HR1.out.alloc _⟩,HSr.out.only (ho1.alloc _),HOr.out.trans ((ho1.alloc _).fr HIr.out.cl _)⟩
        · rw [if_neg hte] at hFr'
          have Hne:Hid (t.text≠[]):=hte
          have q:t.text.isEmpty=false:=by simpa using hte
          have q2:(t.text == [])=false:=by simpa using hte
          clear hb hte
          by_cases hW0:t.text=Rl.wClass
          · have HW:Hid (t.text=Rl.wClass):=hW0
            have hlsp:Rl.line t tsr sr=Rl.classes tsr sr:=by unfold Rl.line;rw [if_pos hW0]
            have HL:Hid (∀ W,In W rb S xr tsr→Stt W rb xr sr→Calls Tryz.prog 40 #[.pointer (some ⟨rb,0,none⟩),.agg #[.string (bs t.text),.int .i64 (t.at':Int)]] W (lineP rb S xr.mb W (Rl.line t tsr sr))):=(fun W hi ht=>by rw [hlsp];exact class_any rb S xr sr tsr W hi hS ht t.text t.at' (by omega):∀ W,In W rb S xr tsr→Stt W rb xr sr→Calls Tryz.prog 40 #[.pointer (some ⟨rb,0,none⟩),.agg #[.string (bs t.text),.int .i64 (t.at':Int)]] W (lineP rb S xr.mb W (Rl.line t tsr sr)))
            clear hlsp hW0
            cases hln:Rl.line t tsr sr with
            | error f =>
              rw [hln] at hFr'
              have HE:Hid (F=.error f):=hFr'
              have T1:Hid (Rl.line t tsr sr=.error f):=hln
              clear hln hFr'
              go_wp2_with (first | (go_at_call 30;refine (next_ok rb S xr t tsr _ HIr.out hS HB.out).mono ?_;rintro e w1 ⟨rfl,hR1,hs1,he1,ho1⟩;have HR1:Hid (Rdr w1 rb S (t.at':Int) xr):=hR1;have HS1:Hid (Rl.Strm S.data.toList t.at' (t :: tsr)):=hs1;clear hR1 hs1;have HO1:Hid (Only (·=rb) wr w1):=ho1;clear ho1;have hlk:(Instr.lookup 76 (.map (some w.heap.size)) (.string (bs t.text)) true).run Tryz.prog (w1.alloc (.cells #[.string (bs t.text),.int .i64 (t.at':Int)] 79))=.ok (.tuple #[.func (.func 40) #[] #[],.bool true]) (w1.alloc (.cells #[.string (bs t.text),.int .i64 (t.at':Int)] 79)):=(by rw [HW.out];exact kn_wClass ((HKr.out.fr (HO1.out.fr HIr.out.cl x.mb) hkm).fr (((Only.refl (fun _=>False) w1).alloc _).fr0 rb x.mb) hkm));have hl1:=HR1.out.lt) | (go_at_call 32;refine (take_any rb S t.at' t.at' t.text xr _ (HR1.out.alloc _) (by omega)).mono ?_;rintro e w2 ⟨rfl,hR2,ho2⟩;have P2:Hid (Pb w2 w1.heap.size t.text t.at'):=(Pb.new w1 _ _).only ho2 (by omega);have p0:=P2.out.c0;have p1:=P2.out.c1;have HI2:Hid (In w2 rb S xr tsr):=⟨_,hR2,Rl.strm_tail HS1.out Hne.out,he1⟩;have HO2:Hid (Only (·=rb) wr w2):=(HO1.out.alloc _).trans ho2;clear hR2 ho2) | (go_at_call 40;have hc:=HL.out w2 HI2.out (HSr.out.only HO2.out);rw [T1.out] at hc;refine hc.mono ?_;clear hc;rintro e w3 ⟨rfl,ho3⟩))
              refine ⟨rfl,?_⟩
              rw [HE.out]
              exact ⟨rfl,HOr.out.trans ((HO2.out.fr HIr.out.cl _).trans (by rw [← HMb.out];exact ho3))⟩
            | ok r =>
              obtain ⟨ts1,s1⟩:=r
              rw [hln] at hFr'
              have T1:Hid (Rl.line t tsr sr=.ok (ts1,s1)):=hln
              have hll:=line_len hln hp200
              clear hln
              cases hwt:Rl.want 59 ts1 with
              | error f =>
                simp only [hwt] at hFr'
                have HE:Hid (F=.error f):=hFr'
                have T2:Hid (Rl.want 59 ts1=.error f):=hwt
                clear hwt hFr'
                go_wp2_with (first | (go_at_call 30;refine (next_ok rb S xr t tsr _ HIr.out hS HB.out).mono ?_;rintro e w1 ⟨rfl,hR1,hs1,he1,ho1⟩;have HR1:Hid (Rdr w1 rb S (t.at':Int) xr):=hR1;have HS1:Hid (Rl.Strm S.data.toList t.at' (t :: tsr)):=hs1;clear hR1 hs1;have HO1:Hid (Only (·=rb) wr w1):=ho1;clear ho1;have hlk:(Instr.lookup 76 (.map (some w.heap.size)) (.string (bs t.text)) true).run Tryz.prog (w1.alloc (.cells #[.string (bs t.text),.int .i64 (t.at':Int)] 79))=.ok (.tuple #[.func (.func 40) #[] #[],.bool true]) (w1.alloc (.cells #[.string (bs t.text),.int .i64 (t.at':Int)] 79)):=(by rw [HW.out];exact kn_wClass ((HKr.out.fr (HO1.out.fr HIr.out.cl x.mb) hkm).fr (((Only.refl (fun _=>False) w1).alloc _).fr0 rb x.mb) hkm));have hl1:=HR1.out.lt) | (go_at_call 32;refine (take_any rb S t.at' t.at' t.text xr _ (HR1.out.alloc _) (by omega)).mono ?_;rintro e w2 ⟨rfl,hR2,ho2⟩;have P2:Hid (Pb w2 w1.heap.size t.text t.at'):=(Pb.new w1 _ _).only ho2 (by omega);have p0:=P2.out.c0;have p1:=P2.out.c1;have HI2:Hid (In w2 rb S xr tsr):=⟨_,hR2,Rl.strm_tail HS1.out Hne.out,he1⟩;have HO2:Hid (Only (·=rb) wr w2):=(HO1.out.alloc _).trans ho2;clear hR2 ho2) | (go_at_call 40;have hc:=HL.out w2 HI2.out (HSr.out.only HO2.out);rw [T1.out] at hc;refine hc.mono ?_;clear hc;rintro e w3 ⟨rfl,x3,hx3,hI3,hS3,ho3⟩;have HX3:Hid (x3.mb=xr.mb):=hx3;have HI3:Hid (In w3 rb S x3 ts1):=hI3;have HS3:Hid (Stt w3 rb x3 s1):=hS3;have HO3:Hid (Fr rb xr.mb w2 w3):=ho3;clear hx3 hI3 hS3 ho3) | (go_at_call 33;have hc:=want_any 59 rb S x3 ts1 _ HI3.out hS;rw [T2.out] at hc;refine hc.mono ?_;clear hc;rintro e w4 ⟨rfl,ho4⟩))
                refine ⟨rfl,?_⟩
                rw [HE.out]
                exact ⟨rfl,HOr.out.trans ((HO2.out.fr HIr.out.cl _).trans ((by rw [← HMb.out];exact HO3.out:Fr rb x.mb w2 w3).trans (ho4.fr HI3.out.cl _)))⟩
              | ok ts2 =>
                simp only [hwt] at hFr'
                have HE:Hid (F=Rl.lines m ts2 s1):=hFr'
                have T2:Hid (Rl.want 59 ts1=.ok ts2):=hwt
                have hwl:=Rl.want_len hwt
                clear hwt hFr'
                go_wp2_with (first | (go_at_call 30;refine (next_ok rb S xr t tsr _ HIr.out hS HB.out).mono ?_;rintro e w1 ⟨rfl,hR1,hs1,he1,ho1⟩;have HR1:Hid (Rdr w1 rb S (t.at':Int) xr):=hR1;have HS1:Hid (Rl.Strm S.data.toList t.at' (t :: tsr)):=hs1;clear hR1 hs1;have HO1:Hid (Only (·=rb) wr w1):=ho1;clear ho1;have hlk:(Instr.lookup 76 (.map (some w.heap.size)) (.string (bs t.text)) true).run Tryz.prog (w1.alloc (.cells #[.string (bs t.text),.int .i64 (t.at':Int)] 79))=.ok (.tuple #[.func (.func 40) #[] #[],.bool true]) (w1.alloc (.cells #[.string (bs t.text),.int .i64 (t.at':Int)] 79)):=(by rw [HW.out];exact kn_wClass ((HKr.out.fr (HO1.out.fr HIr.out.cl x.mb) hkm).fr (((Only.refl (fun _=>False) w1).alloc _).fr0 rb x.mb) hkm));have hl1:=HR1.out.lt) | (go_at_call 32;refine (take_any rb S t.at' t.at' t.text xr _ (HR1.out.alloc _) (by omega)).mono ?_;rintro e w2 ⟨rfl,hR2,ho2⟩;have P2:Hid (Pb w2 w1.heap.size t.text t.at'):=(Pb.new w1 _ _).only ho2 (by omega);have p0:=P2.out.c0;have p1:=P2.out.c1;have HI2:Hid (In w2 rb S xr tsr):=⟨_,hR2,Rl.strm_tail HS1.out Hne.out,he1⟩;have HO2:Hid (Only (·=rb) wr w2):=(HO1.out.alloc _).trans ho2;clear hR2 ho2) | (go_at_call 40;have hc:=HL.out w2 HI2.out (HSr.out.only HO2.out);rw [T1.out] at hc;refine hc.mono ?_;clear hc;rintro e w3 ⟨rfl,x3,hx3,hI3,hS3,ho3⟩;have HX3:Hid (x3.mb=xr.mb):=hx3;have HI3:Hid (In w3 rb S x3 ts1):=hI3;have HS3:Hid (Stt w3 rb x3 s1):=hS3;have HO3:Hid (Fr rb xr.mb w2 w3):=ho3;clear hx3 hI3 hS3 ho3) | (go_at_call 33;have hc:=want_any 59 rb S x3 ts1 _ HI3.out hS;rw [T2.out] at hc;refine hc.mono ?_;clear hc;rintro e w4 ⟨rfl,hI4,ho4⟩;have HI4:Hid (In w4 rb S x3 ts2):=hI4;clear hI4;have HO4:Hid (Only (·=rb) w3 w4):=ho4;clear ho4))
                go_roundg ts2.length
                case measure=>simp only [List.length_cons];omega
                case rel =>
                  have hf:Fr rb x.mb wr w4:=(HO2.out.fr HIr.out.cl _).trans ((by rw [← HMb.out];exact HO3.out:Fr rb x.mb w2 w3).trans (HO4.out.fr HI3.out.cl _))
                  exact ⟨ts2,x3,s1,m,rfl,HX3.out.trans HMb.out,HI4.out,HS3.out.only HO4.out,HOr.out.trans hf,HKr.out.fr hf hkm,by omega,by omega,HE.out⟩
          · skip
            by_cases hW1:t.text=Rl.wSet
            · have HW:Hid (t.text=Rl.wSet):=hW1
              have hlsp:Rl.line t tsr sr=Rl.set' tsr sr:=by unfold Rl.line;rw [if_neg hW0,if_pos hW1]
              have HL:Hid (∀ W,In W rb S xr tsr→Stt W rb xr sr→Calls Tryz.prog 41 #[.pointer (some ⟨rb,0,none⟩),.agg #[.string (bs t.text),.int .i64 (t.at':Int)]] W (lineP rb S xr.mb W (Rl.line t tsr sr))):=(fun W hi ht=>by rw [hlsp];exact set_any rb S xr sr _ tsr W hi hS ht t.text t.at' rfl (by omega):∀ W,In W rb S xr tsr→Stt W rb xr sr→Calls Tryz.prog 41 #[.pointer (some ⟨rb,0,none⟩),.agg #[.string (bs t.text),.int .i64 (t.at':Int)]] W (lineP rb S xr.mb W (Rl.line t tsr sr)))
              clear hlsp hW0 hW1
              cases hln:Rl.line t tsr sr with
              | error f =>
                rw [hln] at hFr'
                have HE:Hid (F=.error f):=hFr'
                have T1:Hid (Rl.line t tsr sr=.error f):=hln
                clear hln hFr'
                go_wp2_with (first | (go_at_call 30;refine (next_ok rb S xr t tsr _ HIr.out hS HB.out).mono ?_;rintro e w1 ⟨rfl,hR1,hs1,he1,ho1⟩;have HR1:Hid (Rdr w1 rb S (t.at':Int) xr):=hR1;have HS1:Hid (Rl.Strm S.data.toList t.at' (t :: tsr)):=hs1;clear hR1 hs1;have HO1:Hid (Only (·=rb) wr w1):=ho1;clear ho1;have hlk:(Instr.lookup 76 (.map (some w.heap.size)) (.string (bs t.text)) true).run Tryz.prog (w1.alloc (.cells #[.string (bs t.text),.int .i64 (t.at':Int)] 79))=.ok (.tuple #[.func (.func 41) #[] #[],.bool true]) (w1.alloc (.cells #[.string (bs t.text),.int .i64 (t.at':Int)] 79)):=(by rw [HW.out];exact kn_wSet ((HKr.out.fr (HO1.out.fr HIr.out.cl x.mb) hkm).fr (((Only.refl (fun _=>False) w1).alloc _).fr0 rb x.mb) hkm));have hl1:=HR1.out.lt) | (go_at_call 32;refine (take_any rb S t.at' t.at' t.text xr _ (HR1.out.alloc _) (by omega)).mono ?_;rintro e w2 ⟨rfl,hR2,ho2⟩;have P2:Hid (Pb w2 w1.heap.size t.text t.at'):=(Pb.new w1 _ _).only ho2 (by omega);have p0:=P2.out.c0;have p1:=P2.out.c1;have HI2:Hid (In w2 rb S xr tsr):=⟨_,hR2,Rl.strm_tail HS1.out Hne.out,he1⟩;have HO2:Hid (Only (·=rb) wr w2):=(HO1.out.alloc _).trans ho2;clear hR2 ho2) | (go_at_call 41;have hc:=HL.out w2 HI2.out (HSr.out.only HO2.out);rw [T1.out] at hc;refine hc.mono ?_;clear hc;rintro e w3 ⟨rfl,ho3⟩))
                refine ⟨rfl,?_⟩
                rw [HE.out]
                exact ⟨rfl,HOr.out.trans ((HO2.out.fr HIr.out.cl _).trans (by rw [← HMb.out];exact ho3))⟩
              | ok r =>
                obtain ⟨ts1,s1⟩:=r
                rw [hln] at hFr'
                have T1:Hid (Rl.line t tsr sr=.ok (ts1,s1)):=hln
                have hll:=line_len hln hp200
                clear hln
                cases hwt:Rl.want 59 ts1 with
                | error f =>
                  simp only [hwt] at hFr'
                  have HE:Hid (F=.error f):=hFr'
                  have T2:Hid (Rl.want 59 ts1=.error f):=hwt
                  clear hwt hFr'
                  go_wp2_with (first | (go_at_call 30;refine (next_ok rb S xr t tsr _ HIr.out hS HB.out).mono ?_;rintro e w1 ⟨rfl,hR1,hs1,he1,ho1⟩;have HR1:Hid (Rdr w1 rb S (t.at':Int) xr):=hR1;have HS1:Hid (Rl.Strm S.data.toList t.at' (t :: tsr)):=hs1;clear hR1 hs1;have HO1:Hid (Only (·=rb) wr w1):=ho1;clear ho1;have hlk:(Instr.lookup 76 (.map (some w.heap.size)) (.string (bs t.text)) true).run Tryz.prog (w1.alloc (.cells #[.string (bs t.text),.int .i64 (t.at':Int)] 79))=.ok (.tuple #[.func (.func 41) #[] #[],.bool true]) (w1.alloc (.cells #[.string (bs t.text),.int .i64 (t.at':Int)] 79)):=(by rw [HW.out];exact kn_wSet ((HKr.out.fr (HO1.out.fr HIr.out.cl x.mb) hkm).fr (((Only.refl (fun _=>False) w1).alloc _).fr0 rb x.mb) hkm));have hl1:=HR1.out.lt) | (go_at_call 32;refine (take_any rb S t.at' t.at' t.text xr _ (HR1.out.alloc _) (by omega)).mono ?_;rintro e w2 ⟨rfl,hR2,ho2⟩;have P2:Hid (Pb w2 w1.heap.size t.text t.at'):=(Pb.new w1 _ _).only ho2 (by omega);have p0:=P2.out.c0;have p1:=P2.out.c1;have HI2:Hid (In w2 rb S xr tsr):=⟨_,hR2,Rl.strm_tail HS1.out Hne.out,he1⟩;have HO2:Hid (Only (·=rb) wr w2):=(HO1.out.alloc _).trans ho2;clear hR2 ho2) | (go_at_call 41;have hc:=HL.out w2 HI2.out (HSr.out.only HO2.out);rw [T1.out] at hc;refine hc.mono ?_;clear hc;rintro e w3 ⟨rfl,x3,hx3,hI3,hS3,ho3⟩;have HX3:Hid (x3.mb=xr.mb):=hx3;have HI3:Hid (In w3 rb S x3 ts1):=hI3;have HS3:Hid (Stt w3 rb x3 s1):=hS3;have HO3:Hid (Fr rb xr.mb w2 w3):=ho3;clear hx3 hI3 hS3 ho3) | (go_at_call 33;have hc:=want_any 59 rb S x3 ts1 _ HI3.out hS;rw [T2.out] at hc;refine hc.mono ?_;clear hc;rintro e w4 ⟨rfl,ho4⟩))
                  refine ⟨rfl,?_⟩
                  rw [HE.out]
                  exact ⟨rfl,HOr.out.trans ((HO2.out.fr HIr.out.cl _).trans ((by rw [← HMb.out];exact HO3.out:Fr rb x.mb w2 w3).trans (ho4.fr HI3.out.cl _)))⟩
                | ok ts2 =>
                  simp only [hwt] at hFr'
                  have HE:Hid (F=Rl.lines m ts2 s1):=hFr'
                  have T2:Hid (Rl.want 59 ts1=.ok ts2):=hwt
                  have hwl:=Rl.want_len hwt
                  clear hwt hFr'
                  go_wp2_with (first | (go_at_call 30;refine (next_ok rb S xr t tsr _ HIr.out hS HB.out).mono ?_;rintro e w1 ⟨rfl,hR1,hs1,he1,ho1⟩;have HR1:Hid (Rdr w1 rb S (t.at':Int) xr):=hR1;have HS1:Hid (Rl.Strm S.data.toList t.at' (t :: tsr)):=hs1;clear hR1 hs1;have HO1:Hid (Only (·=rb) wr w1):=ho1;clear ho1;have hlk:(Instr.lookup 76 (.map (some w.heap.size)) (.string (bs t.text)) true).run Tryz.prog (w1.alloc (.cells #[.string (bs t.text),.int .i64 (t.at':Int)] 79))=.ok (.tuple #[.func (.func 41) #[] #[],.bool true]) (w1.alloc (.cells #[.string (bs t.text),.int .i64 (t.at':Int)] 79)):=(by rw [HW.out];exact kn_wSet ((HKr.out.fr (HO1.out.fr HIr.out.cl x.mb) hkm).fr (((Only.refl (fun _=>False) w1).alloc _).fr0 rb x.mb) hkm));have hl1:=HR1.out.lt) | (go_at_call 32;refine (take_any rb S t.at' t.at' t.text xr _ (HR1.out.alloc _) (by omega)).mono ?_;rintro e w2 ⟨rfl,hR2,ho2⟩;have P2:Hid (Pb w2 w1.heap.size t.text t.at'):=(Pb.new w1 _ _).only ho2 (by omega);have p0:=P2.out.c0;have p1:=P2.out.c1;have HI2:Hid (In w2 rb S xr tsr):=⟨_,hR2,Rl.strm_tail HS1.out Hne.out,he1⟩;have HO2:Hid (Only (·=rb) wr w2):=(HO1.out.alloc _).trans ho2;clear hR2 ho2) | (go_at_call 41;have hc:=HL.out w2 HI2.out (HSr.out.only HO2.out);rw [T1.out] at hc;refine hc.mono ?_;clear hc;rintro e w3 ⟨rfl,x3,hx3,hI3,hS3,ho3⟩;have HX3:Hid (x3.mb=xr.mb):=hx3;have HI3:Hid (In w3 rb S x3 ts1):=hI3;have HS3:Hid (Stt w3 rb x3 s1):=hS3;have HO3:Hid (Fr rb xr.mb w2 w3):=ho3;clear hx3 hI3 hS3 ho3) | (go_at_call 33;have hc:=want_any 59 rb S x3 ts1 _ HI3.out hS;rw [T2.out] at hc;refine hc.mono ?_;clear hc;rintro e w4 ⟨rfl,hI4,ho4⟩;have HI4:Hid (In w4 rb S x3 ts2):=hI4;clear hI4;have HO4:Hid (Only (·=rb) w3 w4):=ho4;clear ho4))
                  go_roundg ts2.length
                  case measure=>simp only [List.length_cons];omega
                  case rel =>
                    have hf:Fr rb x.mb wr w4:=(HO2.out.fr HIr.out.cl _).trans ((by rw [← HMb.out];exact HO3.out:Fr rb x.mb w2 w3).trans (HO4.out.fr HI3.out.cl _))
                    exact ⟨ts2,x3,s1,m,rfl,HX3.out.trans HMb.out,HI4.out,HS3.out.only HO4.out,HOr.out.trans hf,HKr.out.fr hf hkm,by omega,by omega,HE.out⟩
            · skip
              by_cases hW2:t.text=Rl.wJoin
              · have HW:Hid (t.text=Rl.wJoin):=hW2
                have hlsp:Rl.line t tsr sr=Rl.join' tsr sr:=by unfold Rl.line;rw [if_neg hW0,if_neg hW1,if_pos hW2]
                have HL:Hid (∀ W,In W rb S xr tsr→Stt W rb xr sr→Calls Tryz.prog 42 #[.pointer (some ⟨rb,0,none⟩),.agg #[.string (bs t.text),.int .i64 (t.at':Int)]] W (lineP rb S xr.mb W (Rl.line t tsr sr))):=(fun W hi ht=>by rw [hlsp];exact join_any rb S xr sr _ tsr W hi hS ht t.text t.at' rfl:∀ W,In W rb S xr tsr→Stt W rb xr sr→Calls Tryz.prog 42 #[.pointer (some ⟨rb,0,none⟩),.agg #[.string (bs t.text),.int .i64 (t.at':Int)]] W (lineP rb S xr.mb W (Rl.line t tsr sr)))
                clear hlsp hW0 hW1 hW2
                cases hln:Rl.line t tsr sr with
                | error f =>
                  rw [hln] at hFr'
                  have HE:Hid (F=.error f):=hFr'
                  have T1:Hid (Rl.line t tsr sr=.error f):=hln
                  clear hln hFr'
                  go_wp2_with (first | (go_at_call 30;refine (next_ok rb S xr t tsr _ HIr.out hS HB.out).mono ?_;rintro e w1 ⟨rfl,hR1,hs1,he1,ho1⟩;have HR1:Hid (Rdr w1 rb S (t.at':Int) xr):=hR1;have HS1:Hid (Rl.Strm S.data.toList t.at' (t :: tsr)):=hs1;clear hR1 hs1;have HO1:Hid (Only (·=rb) wr w1):=ho1;clear ho1;have hlk:(Instr.lookup 76 (.map (some w.heap.size)) (.string (bs t.text)) true).run Tryz.prog (w1.alloc (.cells #[.string (bs t.text),.int .i64 (t.at':Int)] 79))=.ok (.tuple #[.func (.func 42) #[] #[],.bool true]) (w1.alloc (.cells #[.string (bs t.text),.int .i64 (t.at':Int)] 79)):=(by rw [HW.out];exact kn_wJoin ((HKr.out.fr (HO1.out.fr HIr.out.cl x.mb) hkm).fr (((Only.refl (fun _=>False) w1).alloc _).fr0 rb x.mb) hkm));have hl1:=HR1.out.lt) | (go_at_call 32;refine (take_any rb S t.at' t.at' t.text xr _ (HR1.out.alloc _) (by omega)).mono ?_;rintro e w2 ⟨rfl,hR2,ho2⟩;have P2:Hid (Pb w2 w1.heap.size t.text t.at'):=(Pb.new w1 _ _).only ho2 (by omega);have p0:=P2.out.c0;have p1:=P2.out.c1;have HI2:Hid (In w2 rb S xr tsr):=⟨_,hR2,Rl.strm_tail HS1.out Hne.out,he1⟩;have HO2:Hid (Only (·=rb) wr w2):=(HO1.out.alloc _).trans ho2;clear hR2 ho2) | (go_at_call 42;have hc:=HL.out w2 HI2.out (HSr.out.only HO2.out);rw [T1.out] at hc;refine hc.mono ?_;clear hc;rintro e w3 ⟨rfl,ho3⟩))
                  refine ⟨rfl,?_⟩
                  rw [HE.out]
                  exact ⟨rfl,HOr.out.trans ((HO2.out.fr HIr.out.cl _).trans (by rw [← HMb.out];exact ho3))⟩
                | ok r =>
                  obtain ⟨ts1,s1⟩:=r
                  rw [hln] at hFr'
                  have T1:Hid (Rl.line t tsr sr=.ok (ts1,s1)):=hln
                  have hll:=line_len hln hp200
                  clear hln
                  cases hwt:Rl.want 59 ts1 with
                  | error f =>
                    simp only [hwt] at hFr'
                    have HE:Hid (F=.error f):=hFr'
                    have T2:Hid (Rl.want 59 ts1=.error f):=hwt
                    clear hwt hFr'
                    go_wp2_with (first | (go_at_call 30;refine (next_ok rb S xr t tsr _ HIr.out hS HB.out).mono ?_;rintro e w1 ⟨rfl,hR1,hs1,he1,ho1⟩;have HR1:Hid (Rdr w1 rb S (t.at':Int) xr):=hR1;have HS1:Hid (Rl.Strm S.data.toList t.at' (t :: tsr)):=hs1;clear hR1 hs1;have HO1:Hid (Only (·=rb) wr w1):=ho1;clear ho1;have hlk:(Instr.lookup 76 (.map (some w.heap.size)) (.string (bs t.text)) true).run Tryz.prog (w1.alloc (.cells #[.string (bs t.text),.int .i64 (t.at':Int)] 79))=.ok (.tuple #[.func (.func 42) #[] #[],.bool true]) (w1.alloc (.cells #[.string (bs t.text),.int .i64 (t.at':Int)] 79)):=(by rw [HW.out];exact kn_wJoin ((HKr.out.fr (HO1.out.fr HIr.out.cl x.mb) hkm).fr (((Only.refl (fun _=>False) w1).alloc _).fr0 rb x.mb) hkm));have hl1:=HR1.out.lt) | (go_at_call 32;refine (take_any rb S t.at' t.at' t.text xr _ (HR1.out.alloc _) (by omega)).mono ?_;rintro e w2 ⟨rfl,hR2,ho2⟩;have P2:Hid (Pb w2 w1.heap.size t.text t.at'):=(Pb.new w1 _ _).only ho2 (by omega);have p0:=P2.out.c0;have p1:=P2.out.c1;have HI2:Hid (In w2 rb S xr tsr):=⟨_,hR2,Rl.strm_tail HS1.out Hne.out,he1⟩;have HO2:Hid (Only (·=rb) wr w2):=(HO1.out.alloc _).trans ho2;clear hR2 ho2) | (go_at_call 42;have hc:=HL.out w2 HI2.out (HSr.out.only HO2.out);rw [T1.out] at hc;refine hc.mono ?_;clear hc;rintro e w3 ⟨rfl,x3,hx3,hI3,hS3,ho3⟩;have HX3:Hid (x3.mb=xr.mb):=hx3;have HI3:Hid (In w3 rb S x3 ts1):=hI3;have HS3:Hid (Stt w3 rb x3 s1):=hS3;have HO3:Hid (Fr rb xr.mb w2 w3):=ho3;clear hx3 hI3 hS3 ho3) | (go_at_call 33;have hc:=want_any 59 rb S x3 ts1 _ HI3.out hS;rw [T2.out] at hc;refine hc.mono ?_;clear hc;rintro e w4 ⟨rfl,ho4⟩))
                    refine ⟨rfl,?_⟩
                    rw [HE.out]
                    exact ⟨rfl,HOr.out.trans ((HO2.out.fr HIr.out.cl _).trans ((by rw [← HMb.out];exact HO3.out:Fr rb x.mb w2 w3).trans (ho4.fr HI3.out.cl _)))⟩
                  | ok ts2 =>
                    simp only [hwt] at hFr'
                    have HE:Hid (F=Rl.lines m ts2 s1):=hFr'
                    have T2:Hid (Rl.want 59 ts1=.ok ts2):=hwt
                    have hwl:=Rl.want_len hwt
                    clear hwt hFr'
                    go_wp2_with (first | (go_at_call 30;refine (next_ok rb S xr t tsr _ HIr.out hS HB.out).mono ?_;rintro e w1 ⟨rfl,hR1,hs1,he1,ho1⟩;have HR1:Hid (Rdr w1 rb S (t.at':Int) xr):=hR1;have HS1:Hid (Rl.Strm S.data.toList t.at' (t :: tsr)):=hs1;clear hR1 hs1;have HO1:Hid (Only (·=rb) wr w1):=ho1;clear ho1;have hlk:(Instr.lookup 76 (.map (some w.heap.size)) (.string (bs t.text)) true).run Tryz.prog (w1.alloc (.cells #[.string (bs t.text),.int .i64 (t.at':Int)] 79))=.ok (.tuple #[.func (.func 42) #[] #[],.bool true]) (w1.alloc (.cells #[.string (bs t.text),.int .i64 (t.at':Int)] 79)):=(by rw [HW.out];exact kn_wJoin ((HKr.out.fr (HO1.out.fr HIr.out.cl x.mb) hkm).fr (((Only.refl (fun _=>False) w1).alloc _).fr0 rb x.mb) hkm));have hl1:=HR1.out.lt) | (go_at_call 32;refine (take_any rb S t.at' t.at' t.text xr _ (HR1.out.alloc _) (by omega)).mono ?_;rintro e w2 ⟨rfl,hR2,ho2⟩;have P2:Hid (Pb w2 w1.heap.size t.text t.at'):=(Pb.new w1 _ _).only ho2 (by omega);have p0:=P2.out.c0;have p1:=P2.out.c1;have HI2:Hid (In w2 rb S xr tsr):=⟨_,hR2,Rl.strm_tail HS1.out Hne.out,he1⟩;have HO2:Hid (Only (·=rb) wr w2):=(HO1.out.alloc _).trans ho2;clear hR2 ho2) | (go_at_call 42;have hc:=HL.out w2 HI2.out (HSr.out.only HO2.out);rw [T1.out] at hc;refine hc.mono ?_;clear hc;rintro e w3 ⟨rfl,x3,hx3,hI3,hS3,ho3⟩;have HX3:Hid (x3.mb=xr.mb):=hx3;have HI3:Hid (In w3 rb S x3 ts1):=hI3;have HS3:Hid (Stt w3 rb x3 s1):=hS3;have HO3:Hid (Fr rb xr.mb w2 w3):=ho3;clear hx3 hI3 hS3 ho3) | (go_at_call 33;have hc:=want_any 59 rb S x3 ts1 _ HI3.out hS;rw [T2.out] at hc;refine hc.mono ?_;clear hc;rintro e w4 ⟨rfl,hI4,ho4⟩;have HI4:Hid (In w4 rb S x3 ts2):=hI4;clear hI4;have HO4:Hid (Only (·=rb) w3 w4):=ho4;clear ho4))
                    go_roundg ts2.length
                    case measure=>simp only [List.length_cons];omega
                    case rel =>
                      have hf:Fr rb x.mb wr w4:=(HO2.out.fr HIr.out.cl _).trans ((by rw [← HMb.out];exact HO3.out:Fr rb x.mb w2 w3).trans (HO4.out.fr HI3.out.cl _))
                      exact ⟨ts2,x3,s1,m,rfl,HX3.out.trans HMb.out,HI4.out,HS3.out.only HO4.out,HOr.out.trans hf,HKr.out.fr hf hkm,by omega,by omega,HE.out⟩
              · skip
                by_cases hW3:t.text=Rl.wTreat
                · have HW:Hid (t.text=Rl.wTreat):=hW3
                  have hlsp:Rl.line t tsr sr=Rl.treat' tsr sr:=by unfold Rl.line;rw [if_neg hW0,if_neg hW1,if_neg hW2,if_pos hW3]
                  have HL:Hid (∀ W,In W rb S xr tsr→Stt W rb xr sr→Calls Tryz.prog 43 #[.pointer (some ⟨rb,0,none⟩),.agg #[.string (bs t.text),.int .i64 (t.at':Int)]] W (lineP rb S xr.mb W (Rl.line t tsr sr))):=(fun W hi ht=>by rw [hlsp];exact treat_any rb S xr sr _ tsr W hi hS ht t.text t.at' rfl:∀ W,In W rb S xr tsr→Stt W rb xr sr→Calls Tryz.prog 43 #[.pointer (some ⟨rb,0,none⟩),.agg #[.string (bs t.text),.int .i64 (t.at':Int)]] W (lineP rb S xr.mb W (Rl.line t tsr sr)))
                  clear hlsp hW0 hW1 hW2 hW3
                  cases hln:Rl.line t tsr sr with
                  | error f =>
                    rw [hln] at hFr'
                    have HE:Hid (F=.error f):=hFr'
                    have T1:Hid (Rl.line t tsr sr=.error f):=hln
                    clear hln hFr'
                    go_wp2_with (first | (go_at_call 30;refine (next_ok rb S xr t tsr _ HIr.out hS HB.out).mono ?_;rintro e w1 ⟨rfl,hR1,hs1,he1,ho1⟩;have HR1:Hid (Rdr w1 rb S (t.at':Int) xr):=hR1;have HS1:Hid (Rl.Strm S.data.toList t.at' (t :: tsr)):=hs1;clear hR1 hs1;have HO1:Hid (Only (·=rb) wr w1):=ho1;clear ho1;have hlk:(Instr.lookup 76 (.map (some w.heap.size)) (.string (bs t.text)) true).run Tryz.prog (w1.alloc (.cells #[.string (bs t.text),.int .i64 (t.at':Int)] 79))=.ok (.tuple #[.func (.func 43) #[] #[],.bool true]) (w1.alloc (.cells #[.string (bs t.text),.int .i64 (t.at':Int)] 79)):=(by rw [HW.out];exact kn_wTreat ((HKr.out.fr (HO1.out.fr HIr.out.cl x.mb) hkm).fr (((Only.refl (fun _=>False) w1).alloc _).fr0 rb x.mb) hkm));have hl1:=HR1.out.lt) | (go_at_call 32;refine (take_any rb S t.at' t.at' t.text xr _ (HR1.out.alloc _) (by omega)).mono ?_;rintro e w2 ⟨rfl,hR2,ho2⟩;have P2:Hid (Pb w2 w1.heap.size t.text t.at'):=(Pb.new w1 _ _).only ho2 (by omega);have p0:=P2.out.c0;have p1:=P2.out.c1;have HI2:Hid (In w2 rb S xr tsr):=⟨_,hR2,Rl.strm_tail HS1.out Hne.out,he1⟩;have HO2:Hid (Only (·=rb) wr w2):=(HO1.out.alloc _).trans ho2;clear hR2 ho2) | (go_at_call 43;have hc:=HL.out w2 HI2.out (HSr.out.only HO2.out);rw [T1.out] at hc;refine hc.mono ?_;clear hc;rintro e w3 ⟨rfl,ho3⟩))
                    refine ⟨rfl,?_⟩
                    rw [HE.out]
                    exact ⟨rfl,HOr.out.trans ((HO2.out.fr HIr.out.cl _).trans (by rw [← HMb.out];exact ho3))⟩
                  | ok r =>
                    obtain ⟨ts1,s1⟩:=r
                    rw [hln] at hFr'
                    have T1:Hid (Rl.line t tsr sr=.ok (ts1,s1)):=hln
                    have hll:=line_len hln hp200
                    clear hln
                    cases hwt:Rl.want 59 ts1 with
                    | error f =>
                      simp only [hwt] at hFr'
                      have HE:Hid (F=.error f):=hFr'
                      have T2:Hid (Rl.want 59 ts1=.error f):=hwt
                      clear hwt hFr'
                      go_wp2_with (first | (go_at_call 30;refine (next_ok rb S xr t tsr _ HIr.out hS HB.out).mono ?_;rintro e w1 ⟨rfl,hR1,hs1,he1,ho1⟩;have HR1:Hid (Rdr w1 rb S (t.at':Int) xr):=hR1;have HS1:Hid (Rl.Strm S.data.toList t.at' (t :: tsr)):=hs1;clear hR1 hs1;have HO1:Hid (Only (·=rb) wr w1):=ho1;clear ho1;have hlk:(Instr.lookup 76 (.map (some w.heap.size)) (.string (bs t.text)) true).run Tryz.prog (w1.alloc (.cells #[.string (bs t.text),.int .i64 (t.at':Int)] 79))=.ok (.tuple #[.func (.func 43) #[] #[],.bool true]) (w1.alloc (.cells #[.string (bs t.text),.int .i64 (t.at':Int)] 79)):=(by rw [HW.out];exact kn_wTreat ((HKr.out.fr (HO1.out.fr HIr.out.cl x.mb) hkm).fr (((Only.refl (fun _=>False) w1).alloc _).fr0 rb x.mb) hkm));have hl1:=HR1.out.lt) | (go_at_call 32;refine (take_any rb S t.at' t.at' t.text xr _ (HR1.out.alloc _) (by omega)).mono ?_;rintro e w2 ⟨rfl,hR2,ho2⟩;have P2:Hid (Pb w2 w1.heap.size t.text t.at'):=(Pb.new w1 _ _).only ho2 (by omega);have p0:=P2.out.c0;have p1:=P2.out.c1;have HI2:Hid (In w2 rb S xr tsr):=⟨_,hR2,Rl.strm_tail HS1.out Hne.out,he1⟩;have HO2:Hid (Only (·=rb) wr w2):=(HO1.out.alloc _).trans ho2;clear hR2 ho2) | (go_at_call 43;have hc:=HL.out w2 HI2.out (HSr.out.only HO2.out);rw [T1.out] at hc;refine hc.mono ?_;clear hc;rintro e w3 ⟨rfl,x3,hx3,hI3,hS3,ho3⟩;have HX3:Hid (x3.mb=xr.mb):=hx3;have HI3:Hid (In w3 rb S x3 ts1):=hI3;have HS3:Hid (Stt w3 rb x3 s1):=hS3;have HO3:Hid (Fr rb xr.mb w2 w3):=ho3;clear hx3 hI3 hS3 ho3) | (go_at_call 33;have hc:=want_any 59 rb S x3 ts1 _ HI3.out hS;rw [T2.out] at hc;refine hc.mono ?_;clear hc;rintro e w4 ⟨rfl,ho4⟩))
                      refine ⟨rfl,?_⟩
                      rw [HE.out]
                      exact ⟨rfl,HOr.out.trans ((HO2.out.fr HIr.out.cl _).trans ((by rw [← HMb.out];exact HO3.out:Fr rb x.mb w2 w3).trans (ho4.fr HI3.out.cl _)))⟩
                    | ok ts2 =>
                      simp only [hwt] at hFr'
                      have HE:Hid (F=Rl.lines m ts2 s1):=hFr'
                      have T2:Hid (Rl.want 59 ts1=.ok ts2):=hwt
                      have hwl:=Rl.want_len hwt
                      clear hwt hFr'
                      go_wp2_with (first | (go_at_call 30;refine (next_ok rb S xr t tsr _ HIr.out hS HB.out).mono ?_;rintro e w1 ⟨rfl,hR1,hs1,he1,ho1⟩;have HR1:Hid (Rdr w1 rb S (t.at':Int) xr):=hR1;have HS1:Hid (Rl.Strm S.data.toList t.at' (t :: tsr)):=hs1;clear hR1 hs1;have HO1:Hid (Only (·=rb) wr w1):=ho1;clear ho1;have hlk:(Instr.lookup 76 (.map (some w.heap.size)) (.string (bs t.text)) true).run Tryz.prog (w1.alloc (.cells #[.string (bs t.text),.int .i64 (t.at':Int)] 79))=.ok (.tuple #[.func (.func 43) #[] #[],.bool true]) (w1.alloc (.cells #[.string (bs t.text),.int .i64 (t.at':Int)] 79)):=(by rw [HW.out];exact kn_wTreat ((HKr.out.fr (HO1.out.fr HIr.out.cl x.mb) hkm).fr (((Only.refl (fun _=>False) w1).alloc _).fr0 rb x.mb) hkm));have hl1:=HR1.out.lt) | (go_at_call 32;refine (take_any rb S t.at' t.at' t.text xr _ (HR1.out.alloc _) (by omega)).mono ?_;rintro e w2 ⟨rfl,hR2,ho2⟩;have P2:Hid (Pb w2 w1.heap.size t.text t.at'):=(Pb.new w1 _ _).only ho2 (by omega);have p0:=P2.out.c0;have p1:=P2.out.c1;have HI2:Hid (In w2 rb S xr tsr):=⟨_,hR2,Rl.strm_tail HS1.out Hne.out,he1⟩;have HO2:Hid (Only (·=rb) wr w2):=(HO1.out.alloc _).trans ho2;clear hR2 ho2) | (go_at_call 43;have hc:=HL.out w2 HI2.out (HSr.out.only HO2.out);rw [T1.out] at hc;refine hc.mono ?_;clear hc;rintro e w3 ⟨rfl,x3,hx3,hI3,hS3,ho3⟩;have HX3:Hid (x3.mb=xr.mb):=hx3;have HI3:Hid (In w3 rb S x3 ts1):=hI3;have HS3:Hid (Stt w3 rb x3 s1):=hS3;have HO3:Hid (Fr rb xr.mb w2 w3):=ho3;clear hx3 hI3 hS3 ho3) | (go_at_call 33;have hc:=want_any 59 rb S x3 ts1 _ HI3.out hS;rw [T2.out] at hc;refine hc.mono ?_;clear hc;rintro e w4 ⟨rfl,hI4,ho4⟩;have HI4:Hid (In w4 rb S x3 ts2):=hI4;clear hI4;have HO4:Hid (Only (·=rb) w3 w4):=ho4;clear ho4))
                      go_roundg ts2.length
                      case measure=>simp only [List.length_cons];omega
                      case rel =>
                        have hf:Fr rb x.mb wr w4:=(HO2.out.fr HIr.out.cl _).trans ((by rw [← HMb.out];exact HO3.out:Fr rb x.mb w2 w3).trans (HO4.out.fr HI3.out.cl _))
                        exact ⟨ts2,x3,s1,m,rfl,HX3.out.trans HMb.out,HI4.out,HS3.out.only HO4.out,HOr.out.trans hf,HKr.out.fr hf hkm,by omega,by omega,HE.out⟩
                · skip
                  by_cases hW4:t.text=Rl.wKeep
                  · have HW:Hid (t.text=Rl.wKeep):=hW4
                    have hlsp:Rl.line t tsr sr=Rl.rule' 0 t.at' tsr sr:=by unfold Rl.line;rw [if_neg hW0,if_neg hW1,if_neg hW2,if_neg hW3,if_pos hW4]
                    have HL:Hid (∀ W,In W rb S xr tsr→Stt W rb xr sr→Calls Tryz.prog 44 #[.pointer (some ⟨rb,0,none⟩),.agg #[.string (bs t.text),.int .i64 (t.at':Int)]] W (lineP rb S xr.mb W (Rl.line t tsr sr))):=(fun W hi ht=>by rw [hlsp];exact keep_any rb S xr sr tsr W hi hS ht t.text t.at':∀ W,In W rb S xr tsr→Stt W rb xr sr→Calls Tryz.prog 44 #[.pointer (some ⟨rb,0,none⟩),.agg #[.string (bs t.text),.int .i64 (t.at':Int)]] W (lineP rb S xr.mb W (Rl.line t tsr sr)))
                    clear hlsp hW0 hW1 hW2 hW3 hW4
                    cases hln:Rl.line t tsr sr with
                    | error f =>
                      rw [hln] at hFr'
                      have HE:Hid (F=.error f):=hFr'
                      have T1:Hid (Rl.line t tsr sr=.error f):=hln
                      clear hln hFr'
                      go_wp2_with (first | (go_at_call 30;refine (next_ok rb S xr t tsr _ HIr.out hS HB.out).mono ?_;rintro e w1 ⟨rfl,hR1,hs1,he1,ho1⟩;have HR1:Hid (Rdr w1 rb S (t.at':Int) xr):=hR1;have HS1:Hid (Rl.Strm S.data.toList t.at' (t :: tsr)):=hs1;clear hR1 hs1;have HO1:Hid (Only (·=rb) wr w1):=ho1;clear ho1;have hlk:(Instr.lookup 76 (.map (some w.heap.size)) (.string (bs t.text)) true).run Tryz.prog (w1.alloc (.cells #[.string (bs t.text),.int .i64 (t.at':Int)] 79))=.ok (.tuple #[.func (.func 44) #[] #[],.bool true]) (w1.alloc (.cells #[.string (bs t.text),.int .i64 (t.at':Int)] 79)):=(by rw [HW.out];exact kn_wKeep ((HKr.out.fr (HO1.out.fr HIr.out.cl x.mb) hkm).fr (((Only.refl (fun _=>False) w1).alloc _).fr0 rb x.mb) hkm));have hl1:=HR1.out.lt) | (go_at_call 32;refine (take_any rb S t.at' t.at' t.text xr _ (HR1.out.alloc _) (by omega)).mono ?_;rintro e w2 ⟨rfl,hR2,ho2⟩;have P2:Hid (Pb w2 w1.heap.size t.text t.at'):=(Pb.new w1 _ _).only ho2 (by omega);have p0:=P2.out.c0;have p1:=P2.out.c1;have HI2:Hid (In w2 rb S xr tsr):=⟨_,hR2,Rl.strm_tail HS1.out Hne.out,he1⟩;have HO2:Hid (Only (·=rb) wr w2):=(HO1.out.alloc _).trans ho2;clear hR2 ho2) | (go_at_call 44;have hc:=HL.out w2 HI2.out (HSr.out.only HO2.out);rw [T1.out] at hc;refine hc.mono ?_;clear hc;rintro e w3 ⟨rfl,ho3⟩))
                      refine ⟨rfl,?_⟩
                      rw [HE.out]
                      exact ⟨rfl,HOr.out.trans ((HO2.out.fr HIr.out.cl _).trans (by rw [← HMb.out];exact ho3))⟩
                    | ok r =>
                      obtain ⟨ts1,s1⟩:=r
                      rw [hln] at hFr'
                      have T1:Hid (Rl.line t tsr sr=.ok (ts1,s1)):=hln
                      have hll:=line_len hln hp200
                      clear hln
                      cases hwt:Rl.want 59 ts1 with
                      | error f =>
                        simp only [hwt] at hFr'
                        have HE:Hid (F=.error f):=hFr'
                        have T2:Hid (Rl.want 59 ts1=.error f):=hwt
                        clear hwt hFr'
                        go_wp2_with (first | (go_at_call 30;refine (next_ok rb S xr t tsr _ HIr.out hS HB.out).mono ?_;rintro e w1 ⟨rfl,hR1,hs1,he1,ho1⟩;have HR1:Hid (Rdr w1 rb S (t.at':Int) xr):=hR1;have HS1:Hid (Rl.Strm S.data.toList t.at' (t :: tsr)):=hs1;clear hR1 hs1;have HO1:Hid (Only (·=rb) wr w1):=ho1;clear ho1;have hlk:(Instr.lookup 76 (.map (some w.heap.size)) (.string (bs t.text)) true).run Tryz.prog (w1.alloc (.cells #[.string (bs t.text),.int .i64 (t.at':Int)] 79))=.ok (.tuple #[.func (.func 44) #[] #[],.bool true]) (w1.alloc (.cells #[.string (bs t.text),.int .i64 (t.at':Int)] 79)):=(by rw [HW.out];exact kn_wKeep ((HKr.out.fr (HO1.out.fr HIr.out.cl x.mb) hkm).fr (((Only.refl (fun _=>False) w1).alloc _).fr0 rb x.mb) hkm));have hl1:=HR1.out.lt) | (go_at_call 32;refine (take_any rb S t.at' t.at' t.text xr _ (HR1.out.alloc _) (by omega)).mono ?_;rintro e w2 ⟨rfl,hR2,ho2⟩;have P2:Hid (Pb w2 w1.heap.size t.text t.at'):=(Pb.new w1 _ _).only ho2 (by omega);have p0:=P2.out.c0;have p1:=P2.out.c1;have HI2:Hid (In w2 rb S xr tsr):=⟨_,hR2,Rl.strm_tail HS1.out Hne.out,he1⟩;have HO2:Hid (Only (·=rb) wr w2):=(HO1.out.alloc _).trans ho2;clear hR2 ho2) | (go_at_call 44;have hc:=HL.out w2 HI2.out (HSr.out.only HO2.out);rw [T1.out] at hc;refine hc.mono ?_;clear hc;rintro e w3 ⟨rfl,x3,hx3,hI3,hS3,ho3⟩;have HX3:Hid (x3.mb=xr.mb):=hx3;have HI3:Hid (In w3 rb S x3 ts1):=hI3;have HS3:Hid (Stt w3 rb x3 s1):=hS3;have HO3:Hid (Fr rb xr.mb w2 w3):=ho3;clear hx3 hI3 hS3 ho3) | (go_at_call 33;have hc:=want_any 59 rb S x3 ts1 _ HI3.out hS;rw [T2.out] at hc;refine hc.mono ?_;clear hc;rintro e w4 ⟨rfl,ho4⟩))
                        refine ⟨rfl,?_⟩
                        rw [HE.out]
                        exact ⟨rfl,HOr.out.trans ((HO2.out.fr HIr.out.cl _).trans ((by rw [← HMb.out];exact HO3.out:Fr rb x.mb w2 w3).trans (ho4.fr HI3.out.cl _)))⟩
                      | ok ts2 =>
                        simp only [hwt] at hFr'
                        have HE:Hid (F=Rl.lines m ts2 s1):=hFr'
                        have T2:Hid (Rl.want 59 ts1=.ok ts2):=hwt
                        have hwl:=Rl.want_len hwt
                        clear hwt hFr'
                        go_wp2_with (first | (go_at_call 30;refine (next_ok rb S xr t tsr _ HIr.out hS HB.out).mono ?_;rintro e w1 ⟨rfl,hR1,hs1,he1,ho1⟩;have HR1:Hid (Rdr w1 rb S (t.at':Int) xr):=hR1;have HS1:Hid (Rl.Strm S.data.toList t.at' (t :: tsr)):=hs1;clear hR1 hs1;have HO1:Hid (Only (·=rb) wr w1):=ho1;clear ho1;have hlk:(Instr.lookup 76 (.map (some w.heap.size)) (.string (bs t.text)) true).run Tryz.prog (w1.alloc (.cells #[.string (bs t.text),.int .i64 (t.at':Int)] 79))=.ok (.tuple #[.func (.func 44) #[] #[],.bool true]) (w1.alloc (.cells #[.string (bs t.text),.int .i64 (t.at':Int)] 79)):=(by rw [HW.out];exact kn_wKeep ((HKr.out.fr (HO1.out.fr HIr.out.cl x.mb) hkm).fr (((Only.refl (fun _=>False) w1).alloc _).fr0 rb x.mb) hkm));have hl1:=HR1.out.lt) | (go_at_call 32;refine (take_any rb S t.at' t.at' t.text xr _ (HR1.out.alloc _) (by omega)).mono ?_;rintro e w2 ⟨rfl,hR2,ho2⟩;have P2:Hid (Pb w2 w1.heap.size t.text t.at'):=(Pb.new w1 _ _).only ho2 (by omega);have p0:=P2.out.c0;have p1:=P2.out.c1;have HI2:Hid (In w2 rb S xr tsr):=⟨_,hR2,Rl.strm_tail HS1.out Hne.out,he1⟩;have HO2:Hid (Only (·=rb) wr w2):=(HO1.out.alloc _).trans ho2;clear hR2 ho2) | (go_at_call 44;have hc:=HL.out w2 HI2.out (HSr.out.only HO2.out);rw [T1.out] at hc;refine hc.mono ?_;clear hc;rintro e w3 ⟨rfl,x3,hx3,hI3,hS3,ho3⟩;have HX3:Hid (x3.mb=xr.mb):=hx3;have HI3:Hid (In w3 rb S x3 ts1):=hI3;have HS3:Hid (Stt w3 rb x3 s1):=hS3;have HO3:Hid (Fr rb xr.mb w2 w3):=ho3;clear hx3 hI3 hS3 ho3) | (go_at_call 33;have hc:=want_any 59 rb S x3 ts1 _ HI3.out hS;rw [T2.out] at hc;refine hc.mono ?_;clear hc;rintro e w4 ⟨rfl,hI4,ho4⟩;have HI4:Hid (In w4 rb S x3 ts2):=hI4;clear hI4;have HO4:Hid (Only (·=rb) w3 w4):=ho4;clear ho4))
                        go_roundg ts2.length
                        case measure=>simp only [List.length_cons];omega
                        case rel =>
                          have hf:Fr rb x.mb wr w4:=(HO2.out.fr HIr.out.cl _).trans ((by rw [← HMb.out];exact HO3.out:Fr rb x.mb w2 w3).trans (HO4.out.fr HI3.out.cl _))
                          exact ⟨ts2,x3,s1,m,rfl,HX3.out.trans HMb.out,HI4.out,HS3.out.only HO4.out,HOr.out.trans hf,HKr.out.fr hf hkm,by omega,by omega,HE.out⟩
                  · skip
                    by_cases hW5:t.text=Rl.wMay
                    · have HW:Hid (t.text=Rl.wMay):=hW5
                      have hlsp:Rl.line t tsr sr=Rl.rule' 1 t.at' tsr sr:=by unfold Rl.line;rw [if_neg hW0,if_neg hW1,if_neg hW2,if_neg hW3,if_neg hW4,if_pos hW5]
                      have HL:Hid (∀ W,In W rb S xr tsr→Stt W rb xr sr→Calls Tryz.prog 45 #[.pointer (some ⟨rb,0,none⟩),.agg #[.string (bs t.text),.int .i64 (t.at':Int)]] W (lineP rb S xr.mb W (Rl.line t tsr sr))):=(fun W hi ht=>by rw [hlsp];exact may_any rb S xr sr tsr W hi hS ht t.text t.at':∀ W,In W rb S xr tsr→Stt W rb xr sr→Calls Tryz.prog 45 #[.pointer (some ⟨rb,0,none⟩),.agg #[.string (bs t.text),.int .i64 (t.at':Int)]] W (lineP rb S xr.mb W (Rl.line t tsr sr)))
                      clear hlsp hW0 hW1 hW2 hW3 hW4 hW5
                      cases hln:Rl.line t tsr sr with
                      | error f =>
                        rw [hln] at hFr'
                        have HE:Hid (F=.error f):=hFr'
                        have T1:Hid (Rl.line t tsr sr=.error f):=hln
                        clear hln hFr'
                        go_wp2_with (first | (go_at_call 30;refine (next_ok rb S xr t tsr _ HIr.out hS HB.out).mono ?_;rintro e w1 ⟨rfl,hR1,hs1,he1,ho1⟩;have HR1:Hid (Rdr w1 rb S (t.at':Int) xr):=hR1;have HS1:Hid (Rl.Strm S.data.toList t.at' (t :: tsr)):=hs1;clear hR1 hs1;have HO1:Hid (Only (·=rb) wr w1):=ho1;clear ho1;have hlk:(Instr.lookup 76 (.map (some w.heap.size)) (.string (bs t.text)) true).run Tryz.prog (w1.alloc (.cells #[.string (bs t.text),.int .i64 (t.at':Int)] 79))=.ok (.tuple #[.func (.func 45) #[] #[],.bool true]) (w1.alloc (.cells #[.string (bs t.text),.int .i64 (t.at':Int)] 79)):=(by rw [HW.out];exact kn_wMay ((HKr.out.fr (HO1.out.fr HIr.out.cl x.mb) hkm).fr (((Only.refl (fun _=>False) w1).alloc _).fr0 rb x.mb) hkm));have hl1:=HR1.out.lt) | (go_at_call 32;refine (take_any rb S t.at' t.at' t.text xr _ (HR1.out.alloc _) (by omega)).mono ?_;rintro e w2 ⟨rfl,hR2,ho2⟩;have P2:Hid (Pb w2 w1.heap.size t.text t.at'):=(Pb.new w1 _ _).only ho2 (by omega);have p0:=P2.out.c0;have p1:=P2.out.c1;have HI2:Hid (In w2 rb S xr tsr):=⟨_,hR2,Rl.strm_tail HS1.out Hne.out,he1⟩;have HO2:Hid (Only (·=rb) wr w2):=(HO1.out.alloc _).trans ho2;clear hR2 ho2) | (go_at_call 45;have hc:=HL.out w2 HI2.out (HSr.out.only HO2.out);rw [T1.out] at hc;refine hc.mono ?_;clear hc;rintro e w3 ⟨rfl,ho3⟩))
                        refine ⟨rfl,?_⟩
                        rw [HE.out]
                        exact ⟨rfl,HOr.out.trans ((HO2.out.fr HIr.out.cl _).trans (by rw [← HMb.out];exact ho3))⟩
                      | ok r =>
                        obtain ⟨ts1,s1⟩:=r
                        rw [hln] at hFr'
                        have T1:Hid (Rl.line t tsr sr=.ok (ts1,s1)):=hln
                        have hll:=line_len hln hp200
                        clear hln
                        cases hwt:Rl.want 59 ts1 with
                        | error f =>
                          simp only [hwt] at hFr'
                          have HE:Hid (F=.error f):=hFr'
                          have T2:Hid (Rl.want 59 ts1=.error f):=hwt
                          clear hwt hFr'
                          go_wp2_with (first | (go_at_call 30;refine (next_ok rb S xr t tsr _ HIr.out hS HB.out).mono ?_;rintro e w1 ⟨rfl,hR1,hs1,he1,ho1⟩;have HR1:Hid (Rdr w1 rb S (t.at':Int) xr):=hR1;have HS1:Hid (Rl.Strm S.data.toList t.at' (t :: tsr)):=hs1;clear hR1 hs1;have HO1:Hid (Only (·=rb) wr w1):=ho1;clear ho1;have hlk:(Instr.lookup 76 (.map (some w.heap.size)) (.string (bs t.text)) true).run Tryz.prog (w1.alloc (.cells #[.string (bs t.text),.int .i64 (t.at':Int)] 79))=.ok (.tuple #[.func (.func 45) #[] #[],.bool true]) (w1.alloc (.cells #[.string (bs t.text),.int .i64 (t.at':Int)] 79)):=(by rw [HW.out];exact kn_wMay ((HKr.out.fr (HO1.out.fr HIr.out.cl x.mb) hkm).fr (((Only.refl (fun _=>False) w1).alloc _).fr0 rb x.mb) hkm));have hl1:=HR1.out.lt) | (go_at_call 32;refine (take_any rb S t.at' t.at' t.text xr _ (HR1.out.alloc _) (by omega)).mono ?_;rintro e w2 ⟨rfl,hR2,ho2⟩;have P2:Hid (Pb w2 w1.heap.size t.text t.at'):=(Pb.new w1 _ _).only ho2 (by omega);have p0:=P2.out.c0;have p1:=P2.out.c1;have HI2:Hid (In w2 rb S xr tsr):=⟨_,hR2,Rl.strm_tail HS1.out Hne.out,he1⟩;have HO2:Hid (Only (·=rb) wr w2):=(HO1.out.alloc _).trans ho2;clear hR2 ho2) | (go_at_call 45;have hc:=HL.out w2 HI2.out (HSr.out.only HO2.out);rw [T1.out] at hc;refine hc.mono ?_;clear hc;rintro e w3 ⟨rfl,x3,hx3,hI3,hS3,ho3⟩;have HX3:Hid (x3.mb=xr.mb):=hx3;have HI3:Hid (In w3 rb S x3 ts1):=hI3;have HS3:Hid (Stt w3 rb x3 s1):=hS3;have HO3:Hid (Fr rb xr.mb w2 w3):=ho3;clear hx3 hI3 hS3 ho3) | (go_at_call 33;have hc:=want_any 59 rb S x3 ts1 _ HI3.out hS;rw [T2.out] at hc;refine hc.mono ?_;clear hc;rintro e w4 ⟨rfl,ho4⟩))
                          refine ⟨rfl,?_⟩
                          rw [HE.out]
                          exact ⟨rfl,HOr.out.trans ((HO2.out.fr HIr.out.cl _).trans ((by rw [← HMb.out];exact HO3.out:Fr rb x.mb w2 w3).trans (ho4.fr HI3.out.cl _)))⟩
                        | ok ts2 =>
                          simp only [hwt] at hFr'
                          have HE:Hid (F=Rl.lines m ts2 s1):=hFr'
                          have T2:Hid (Rl.want 59 ts1=.ok ts2):=hwt
                          have hwl:=Rl.want_len hwt
                          clear hwt hFr'
                          go_wp2_with (first | (go_at_call 30;refine (next_ok rb S xr t tsr _ HIr.out hS HB.out).mono ?_;rintro e w1 ⟨rfl,hR1,hs1,he1,ho1⟩;have HR1:Hid (Rdr w1 rb S (t.at':Int) xr):=hR1;have HS1:Hid (Rl.Strm S.data.toList t.at' (t :: tsr)):=hs1;clear hR1 hs1;have HO1:Hid (Only (·=rb) wr w1):=ho1;clear ho1;have hlk:(Instr.lookup 76 (.map (some w.heap.size)) (.string (bs t.text)) true).run Tryz.prog (w1.alloc (.cells #[.string (bs t.text),.int .i64 (t.at':Int)] 79))=.ok (.tuple #[.func (.func 45) #[] #[],.bool true]) (w1.alloc (.cells #[.string (bs t.text),.int .i64 (t.at':Int)] 79)):=(by rw [HW.out];exact kn_wMay ((HKr.out.fr (HO1.out.fr HIr.out.cl x.mb) hkm).fr (((Only.refl (fun _=>False) w1).alloc _).fr0 rb x.mb) hkm));have hl1:=HR1.out.lt) | (go_at_call 32;refine (take_any rb S t.at' t.at' t.text xr _ (HR1.out.alloc _) (by omega)).mono ?_;rintro e w2 ⟨rfl,hR2,ho2⟩;have P2:Hid (Pb w2 w1.heap.size t.text t.at'):=(Pb.new w1 _ _).only ho2 (by omega);have p0:=P2.out.c0;have p1:=P2.out.c1;have HI2:Hid (In w2 rb S xr tsr):=⟨_,hR2,Rl.strm_tail HS1.out Hne.out,he1⟩;have HO2:Hid (Only (·=rb) wr w2):=(HO1.out.alloc _).trans ho2;clear hR2 ho2) | (go_at_call 45;have hc:=HL.out w2 HI2.out (HSr.out.only HO2.out);rw [T1.out] at hc;refine hc.mono ?_;clear hc;rintro e w3 ⟨rfl,x3,hx3,hI3,hS3,ho3⟩;have HX3:Hid (x3.mb=xr.mb):=hx3;have HI3:Hid (In w3 rb S x3 ts1):=hI3;have HS3:Hid (Stt w3 rb x3 s1):=hS3;have HO3:Hid (Fr rb xr.mb w2 w3):=ho3;clear hx3 hI3 hS3 ho3) | (go_at_call 33;have hc:=want_any 59 rb S x3 ts1 _ HI3.out hS;rw [T2.out] at hc;refine hc.mono ?_;clear hc;rintro e w4 ⟨rfl,hI4,ho4⟩;have HI4:Hid (In w4 rb S x3 ts2):=hI4;clear hI4;have HO4:Hid (Only (·=rb) w3 w4):=ho4;clear ho4))
                          go_roundg ts2.length
                          case measure=>simp only [List.length_cons];omega
                          case rel =>
                            have hf:Fr rb x.mb wr w4:=(HO2.out.fr HIr.out.cl _).trans ((by rw [← HMb.out];exact HO3.out:Fr rb x.mb w2 w3).trans (HO4.out.fr HI3.out.cl _))
                            exact ⟨ts2,x3,s1,m,rfl,HX3.out.trans HMb.out,HI4.out,HS3.out.only HO4.out,HOr.out.trans hf,HKr.out.fr hf hkm,by omega,by omega,HE.out⟩
                    · skip
                      by_cases hW6:t.text=Rl.wMust
                      · have HW:Hid (t.text=Rl.wMust):=hW6
                        have hlsp:Rl.line t tsr sr=Rl.rule' 2 t.at' tsr sr:=by unfold Rl.line;rw [if_neg hW0,if_neg hW1,if_neg hW2,if_neg hW3,if_neg hW4,if_neg hW5,if_pos hW6]
                        have HL:Hid (∀ W,In W rb S xr tsr→Stt W rb xr sr→Calls Tryz.prog 46 #[.pointer (some ⟨rb,0,none⟩),.agg #[.string (bs t.text),.int .i64 (t.at':Int)]] W (lineP rb S xr.mb W (Rl.line t tsr sr))):=(fun W hi ht=>by rw [hlsp];exact must_any rb S xr sr tsr W hi hS ht t.text t.at':∀ W,In W rb S xr tsr→Stt W rb xr sr→Calls Tryz.prog 46 #[.pointer (some ⟨rb,0,none⟩),.agg #[.string (bs t.text),.int .i64 (t.at':Int)]] W (lineP rb S xr.mb W (Rl.line t tsr sr)))
                        clear hlsp hW0 hW1 hW2 hW3 hW4 hW5 hW6
                        cases hln:Rl.line t tsr sr with
                        | error f =>
                          rw [hln] at hFr'
                          have HE:Hid (F=.error f):=hFr'
                          have T1:Hid (Rl.line t tsr sr=.error f):=hln
                          clear hln hFr'
                          go_wp2_with (first | (go_at_call 30;refine (next_ok rb S xr t tsr _ HIr.out hS HB.out).mono ?_;rintro e w1 ⟨rfl,hR1,hs1,he1,ho1⟩;have HR1:Hid (Rdr w1 rb S (t.at':Int) xr):=hR1;have HS1:Hid (Rl.Strm S.data.toList t.at' (t :: tsr)):=hs1;clear hR1 hs1;have HO1:Hid (Only (·=rb) wr w1):=ho1;clear ho1;have hlk:(Instr.lookup 76 (.map (some w.heap.size)) (.string (bs t.text)) true).run Tryz.prog (w1.alloc (.cells #[.string (bs t.text),.int .i64 (t.at':Int)] 79))=.ok (.tuple #[.func (.func 46) #[] #[],.bool true]) (w1.alloc (.cells #[.string (bs t.text),.int .i64 (t.at':Int)] 79)):=(by rw [HW.out];exact kn_wMust ((HKr.out.fr (HO1.out.fr HIr.out.cl x.mb) hkm).fr (((Only.refl (fun _=>False) w1).alloc _).fr0 rb x.mb) hkm));have hl1:=HR1.out.lt) | (go_at_call 32;refine (take_any rb S t.at' t.at' t.text xr _ (HR1.out.alloc _) (by omega)).mono ?_;rintro e w2 ⟨rfl,hR2,ho2⟩;have P2:Hid (Pb w2 w1.heap.size t.text t.at'):=(Pb.new w1 _ _).only ho2 (by omega);have p0:=P2.out.c0;have p1:=P2.out.c1;have HI2:Hid (In w2 rb S xr tsr):=⟨_,hR2,Rl.strm_tail HS1.out Hne.out,he1⟩;have HO2:Hid (Only (·=rb) wr w2):=(HO1.out.alloc _).trans ho2;clear hR2 ho2) | (go_at_call 46;have hc:=HL.out w2 HI2.out (HSr.out.only HO2.out);rw [T1.out] at hc;refine hc.mono ?_;clear hc;rintro e w3 ⟨rfl,ho3⟩))
                          refine ⟨rfl,?_⟩
                          rw [HE.out]
                          exact ⟨rfl,HOr.out.trans ((HO2.out.fr HIr.out.cl _).trans (by rw [← HMb.out];exact ho3))⟩
                        | ok r =>
                          obtain ⟨ts1,s1⟩:=r
                          rw [hln] at hFr'
                          have T1:Hid (Rl.line t tsr sr=.ok (ts1,s1)):=hln
                          have hll:=line_len hln hp200
                          clear hln
                          cases hwt:Rl.want 59 ts1 with
                          | error f =>
                            simp only [hwt] at hFr'
                            have HE:Hid (F=.error f):=hFr'
                            have T2:Hid (Rl.want 59 ts1=.error f):=hwt
                            clear hwt hFr'
                            go_wp2_with (first | (go_at_call 30;refine (next_ok rb S xr t tsr _ HIr.out hS HB.out).mono ?_;rintro e w1 ⟨rfl,hR1,hs1,he1,ho1⟩;have HR1:Hid (Rdr w1 rb S (t.at':Int) xr):=hR1;have HS1:Hid (Rl.Strm S.data.toList t.at' (t :: tsr)):=hs1;clear hR1 hs1;have HO1:Hid (Only (·=rb) wr w1):=ho1;clear ho1;have hlk:(Instr.lookup 76 (.map (some w.heap.size)) (.string (bs t.text)) true).run Tryz.prog (w1.alloc (.cells #[.string (bs t.text),.int .i64 (t.at':Int)] 79))=.ok (.tuple #[.func (.func 46) #[] #[],.bool true]) (w1.alloc (.cells #[.string (bs t.text),.int .i64 (t.at':Int)] 79)):=(by rw [HW.out];exact kn_wMust ((HKr.out.fr (HO1.out.fr HIr.out.cl x.mb) hkm).fr (((Only.refl (fun _=>False) w1).alloc _).fr0 rb x.mb) hkm));have hl1:=HR1.out.lt) | (go_at_call 32;refine (take_any rb S t.at' t.at' t.text xr _ (HR1.out.alloc _) (by omega)).mono ?_;rintro e w2 ⟨rfl,hR2,ho2⟩;have P2:Hid (Pb w2 w1.heap.size t.text t.at'):=(Pb.new w1 _ _).only ho2 (by omega);have p0:=P2.out.c0;have p1:=P2.out.c1;have HI2:Hid (In w2 rb S xr tsr):=⟨_,hR2,Rl.strm_tail HS1.out Hne.out,he1⟩;have HO2:Hid (Only (·=rb) wr w2):=(HO1.out.alloc _).trans ho2;clear hR2 ho2) | (go_at_call 46;have hc:=HL.out w2 HI2.out (HSr.out.only HO2.out);rw [T1.out] at hc;refine hc.mono ?_;clear hc;rintro e w3 ⟨rfl,x3,hx3,hI3,hS3,ho3⟩;have HX3:Hid (x3.mb=xr.mb):=hx3;have HI3:Hid (In w3 rb S x3 ts1):=hI3;have HS3:Hid (Stt w3 rb x3 s1):=hS3;have HO3:Hid (Fr rb xr.mb w2 w3):=ho3;clear hx3 hI3 hS3 ho3) | (go_at_call 33;have hc:=want_any 59 rb S x3 ts1 _ HI3.out hS;rw [T2.out] at hc;refine hc.mono ?_;clear hc;rintro e w4 ⟨rfl,ho4⟩))
                            refine ⟨rfl,?_⟩
                            rw [HE.out]
                            exact ⟨rfl,HOr.out.trans ((HO2.out.fr HIr.out.cl _).trans ((by rw [← HMb.out];exact HO3.out:Fr rb x.mb w2 w3).trans (ho4.fr HI3.out.cl _)))⟩
                          | ok ts2 =>
                            simp only [hwt] at hFr'
                            have HE:Hid (F=Rl.lines m ts2 s1):=hFr'
                            have T2:Hid (Rl.want 59 ts1=.ok ts2):=hwt
                            have hwl:=Rl.want_len hwt
                            clear hwt hFr'
                            go_wp2_with (first | (go_at_call 30;refine (next_ok rb S xr t tsr _ HIr.out hS HB.out).mono ?_;rintro e w1 ⟨rfl,hR1,hs1,he1,ho1⟩;have HR1:Hid (Rdr w1 rb S (t.at':Int) xr):=hR1;have HS1:Hid (Rl.Strm S.data.toList t.at' (t :: tsr)):=hs1;clear hR1 hs1;have HO1:Hid (Only (·=rb) wr w1):=ho1;clear ho1;have hlk:(Instr.lookup 76 (.map (some w.heap.size)) (.string (bs t.text)) true).run Tryz.prog (w1.alloc (.cells #[.string (bs t.text),.int .i64 (t.at':Int)] 79))=.ok (.tuple #[.func (.func 46) #[] #[],.bool true]) (w1.alloc (.cells #[.string (bs t.text),.int .i64 (t.at':Int)] 79)):=(by rw [HW.out];exact kn_wMust ((HKr.out.fr (HO1.out.fr HIr.out.cl x.mb) hkm).fr (((Only.refl (fun _=>False) w1).alloc _).fr0 rb x.mb) hkm));have hl1:=HR1.out.lt) | (go_at_call 32;refine (take_any rb S t.at' t.at' t.text xr _ (HR1.out.alloc _) (by omega)).mono ?_;rintro e w2 ⟨rfl,hR2,ho2⟩;have P2:Hid (Pb w2 w1.heap.size t.text t.at'):=(Pb.new w1 _ _).only ho2 (by omega);have p0:=P2.out.c0;have p1:=P2.out.c1;have HI2:Hid (In w2 rb S xr tsr):=⟨_,hR2,Rl.strm_tail HS1.out Hne.out,he1⟩;have HO2:Hid (Only (·=rb) wr w2):=(HO1.out.alloc _).trans ho2;clear hR2 ho2) | (go_at_call 46;have hc:=HL.out w2 HI2.out (HSr.out.only HO2.out);rw [T1.out] at hc;refine hc.mono ?_;clear hc;rintro e w3 ⟨rfl,x3,hx3,hI3,hS3,ho3⟩;have HX3:Hid (x3.mb=xr.mb):=hx3;have HI3:Hid (In w3 rb S x3 ts1):=hI3;have HS3:Hid (Stt w3 rb x3 s1):=hS3;have HO3:Hid (Fr rb xr.mb w2 w3):=ho3;clear hx3 hI3 hS3 ho3) | (go_at_call 33;have hc:=want_any 59 rb S x3 ts1 _ HI3.out hS;rw [T2.out] at hc;refine hc.mono ?_;clear hc;rintro e w4 ⟨rfl,hI4,ho4⟩;have HI4:Hid (In w4 rb S x3 ts2):=hI4;clear hI4;have HO4:Hid (Only (·=rb) w3 w4):=ho4;clear ho4))
                            go_roundg ts2.length
                            case measure=>simp only [List.length_cons];omega
                            case rel =>
                              have hf:Fr rb x.mb wr w4:=(HO2.out.fr HIr.out.cl _).trans ((by rw [← HMb.out];exact HO3.out:Fr rb x.mb w2 w3).trans (HO4.out.fr HI3.out.cl _))
                              exact ⟨ts2,x3,s1,m,rfl,HX3.out.trans HMb.out,HI4.out,HS3.out.only HO4.out,HOr.out.trans hf,HKr.out.fr hf hkm,by omega,by omega,HE.out⟩
                      · have hln:Rl.line t tsr sr=.error (21,t.at'):=by unfold Rl.line;rw [if_neg hW0,if_neg hW1,if_neg hW2,if_neg hW3,if_neg hW4,if_neg hW5,if_neg hW6]
                        rw [hln] at hFr'
                        have HE:Hid (F=.error (21,t.at')):=hFr'
                        have hno:=has_none hW0 hW1 hW2 hW3 hW4 hW5 hW6
                        have HNo:Hid (Maps.has kindsD (.string t.text)=false):=hno
                        clear hln hFr' hno hW0 hW1 hW2 hW3 hW4 hW5 hW6
                        go_wp2_with (first | (go_at_call 30;refine (next_ok rb S xr t tsr _ HIr.out hS HB.out).mono ?_;rintro e w1 ⟨rfl,hR1,hs1,he1,ho1⟩;have HR1:Hid (Rdr w1 rb S (t.at':Int) xr):=hR1;have HS1:Hid (Rl.Strm S.data.toList t.at' (t :: tsr)):=hs1;clear hR1 hs1;have HO1:Hid (Only (·=rb) wr w1):=ho1;clear ho1;obtain ⟨vv,ps,hvr,_⟩:=((HKr.out.fr (HO1.out.fr HIr.out.cl x.mb) hkm).fr (((Only.refl (fun _=>False) w1).alloc (.cells #[.string (bs t.text),.int .i64 (t.at':Int)] 79)).fr0 rb x.mb) hkm).look (s:=t.text) (by omega);rw [HNo.out] at hvr;have hl1:=HR1.out.lt) | (go_at_call 31;refine (throw_any 21 t.at' _).mono ?_;rintro e w3 ⟨rfl,rfl⟩))
                        refine ⟨rfl,?_⟩
                        rw [HE.out]
                        exact ⟨rfl,HOr.out.trans ((HO1.out.alloc _).fr HIr.out.cl _)⟩
end Go.Proofs.YtchaoonefiamdaaGreatDoor
