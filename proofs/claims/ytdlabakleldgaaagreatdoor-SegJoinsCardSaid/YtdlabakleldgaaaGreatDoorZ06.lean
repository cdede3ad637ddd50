/- Names Names2 Some Some2 -/
import Derived.Test.YtdlabakleldgaaaGreatDoorZ00
import Derived.Test.YtdlabakleldgaaaGreatDoorZ05
import Derived.Maps.OwnSet
import Derived.StringKeys
import Derived.Deep.LoopGhost
set_option linter.unusedVariables false
set_option linter.unusedSimpArgs false
set_option maxRecDepth 100000
set_option maxHeartbeats 8000000
namespace Go.Proofs.YtdlabakleldgaaaGreatDoor
open Go.RowKit Go.Maps
theorem ug:Keyed Tryz.prog 9:=string_keyed Tryz.underlying9
theorem QU (w:World):(zeroValue 32).run Tryz.prog w=.ok (.int .u32 0) w:=by kernel_rfl
def Mp (w:World) (mb:Nat) (E:Rl.Env):Prop:=∃D:DataW Unit,w.ownsMap Tryz.prog 9 (plainElem Tryz.prog 32) mb E.length D∧IsMap D∧∀s:Rl.Str,D.atKey (.string s) (.lit (.int .u32 0))=.lit (.int .u32 ((Rl.find E s).getD 0))∧Maps.has D (.string s)=(Rl.find E s).isSome
theorem Ja (s:Rl.Str) (hs:s.length≤4096):keyOf Tryz.prog 9 (.string (bs s))=some (.string s):=by
 have hs':(bs s).size≤maxLen:=by rw [bf];unfold maxLen;omega
 unfold keyOf
 simp [Tryz.underlying9,mapKey,hs']
 rfl
theorem Mp.look {w:World} {mb:Nat} {E:Rl.Env} (h:Mp w mb E) {s:Rl.Str} (hs:s.length≤4096):
  (Instr.lookup 80 (.map (some mb)) (.string (bs s)) true).run Tryz.prog w=.ok (.tuple #[.int .u32 ((Rl.find E s).getD 0),.bool (Rl.find E s).isSome]) w:=by
 obtain⟨D,h1,hm,h2⟩:=h
 obtain⟨v,ps,hr,hv⟩:=h1.look_ok ug Tryz.underlying80 (QU w) (plainElem_int Tryz.underlying32 (by decide)) (Ja s hs)
 obtain⟨c,rfl,hc,_⟩:=plainElem_int_inv Tryz.underlying32 hv
 have e1:=congrArg Prod.fst hc
 simp only at e1
 rw [(h2 s).1] at e1
 have e2:(Rl.find E s).getD 0=c:=by
  have e3:=DataW.lit.inj e1
  exact (Lit.int.inj e3).2
 rw [hr,(h2 s).2,e2]
theorem Mp.lt {w:World} {mb:Nat} {E:Rl.Env} (h:Mp w mb E):mb < w.heap.size:=by
 obtain⟨D,⟨es,cl,h1,_⟩,_⟩:=h
 exact (Array.getElem?_eq_some_iff.1 h1).1
theorem Mp.only {w w':World} {mb:Nat} {E:Rl.Env} {P:Nat→Prop} (h:Mp w mb E) (ho:Only P w w') (hn:¬ P mb):Mp w' mb E:=by
 have hl:=h.lt
 obtain⟨D,⟨es,cl,h1,h2⟩,h3⟩:=h
 exact⟨D,⟨es,cl,(ho.block mb hl hn).trans h1,h2⟩,h3⟩
theorem Mp.drewN {w:World} {mb:Nat} {E:Rl.Env} (h:Mp w mb E) (n:Nat):Mp (w.drewN n) mb E:=h
theorem Mp.alloc {w:World} {mb:Nat} {E:Rl.Env} (h:Mp w mb E) (o:Obj):Mp (w.alloc o) mb E:=h.only ((Only.refl (fun _=>False) w).alloc o) (fun h=>h)
def UI (rb:Nat) (S:ByteArray) (x:Rd) (w:World) (F:Rl.R (Int × List Rl.Tk)) (e:Ending) (w':World):Prop:=
 match F with
 | .error f=>e=.panicked (BV f.1 f.2)∧Only (·=rb) w w'
 | .ok (b,ts)=>e=.returned (.int .u32 b)∧In w' rb S x ts∧Only (·=rb) w w'
def nG (E:Rl.Env) (ts:List Rl.Tk):Rl.R (Int × List Rl.Tk):=
 match Rl.name ts with
 | .error f=>.error f
 | .ok (t,bK)=>match Rl.find E t.text with
  | none=>.error (22,t.at')
  | some b=>.ok (b,bK)
theorem oZ {l:Rl.Str} {i:Nat} {ts:List Rl.Tk} {t:Rl.Tk} {bK:List Rl.Tk} (h:Rl.jg l i ts) (hn:Rl.name ts=.ok (t,bK)):ts=t::bK∧t.text.length≤l.length:=by
 cases ts with
 | nil=>exact h.elim
 | cons t0 Po=>
  have hn':(if t0.bad=true then (Except.error (20,t0.at'):Rl.R (Rl.Tk × List Rl.Tk)) else if Rl.fe t0=true then .ok (t0,Po) else .error (21,t0.at'))=.ok (t,bK):=hn
  split at hn'
  ·cases hn'
  ·split at hn'
   ·injection hn' with hn'
    injection hn' with h1 h2
    subst h1 h2
    refine⟨rfl,?_⟩
    rw [h.1,Rl.BR]
    have:=Rl.xJ (l.drop (Rl.nx l i))
    rw [List.length_drop] at this
    omega
   ·cases hn'
theorem iD (E:Rl.Env) (rb:Nat) (S:ByteArray) (x:Rd) (ts:List Rl.Tk) (w:World) (h:In w rb S x ts) (hS:S.size≤4096) (hM:Mp w x.mb E) (hmb:x.mb≠rb):
  Calls Tryz.prog 109 #[.pointer (some ⟨rb,0,none⟩)] w (UI rb S x w (nG E ts)):=by
 have hn:=uf rb S x ts w h hS
 have hlt:=h.lt
 obtain⟨i,_,hs,hi⟩:=h
 cases hnm:Rl.name ts with
 | error f=>
  have hF:nG E ts=.error f:=by unfold nG;rw [hnm]
  rw [hF]
  rw [hnm] at hn
  have HN:=zH hn
  clear hF hnm hn hs
  go_enter Tryz.func109,Tryz.ntmps109
  go_wp2_with (go_at_call 107;refine HN.out.mono ?_;rintro e w1 ⟨rfl,ho1⟩)
  exact⟨rfl,rfl,ho1⟩
 | ok r=>
  obtain⟨t,bK⟩:=r
  obtain⟨_,htl⟩:=oZ hs hnm
  rw [←Lib.size_eq] at htl
  rw [hnm] at hn
  have HN:=zH hn
  cases hf:Rl.find E t.text with
  | none=>
   have hF:nG E ts=.error (22,t.at'):=by unfold nG;rw [hnm];simp only [hf]
   rw [hF]
   have HF:=zH hf
   clear hF hnm hn hs hf
   go_enter Tryz.func109,Tryz.ntmps109
   go_wp2_with (go_at_call 107;refine HN.out.mono ?_;rintro e w1 ⟨rfl,hi1,ho1⟩;have HI1:=zH hi1;obtain⟨i1,az,_,_⟩:=hi1;have d7:=az.c7;have hlk:∀n,(Instr.lookup 80 (.map (some x.mb)) (.string (bs t.text)) true).run Tryz.prog ((w1.alloc (.cells #[.string (bs t.text),.int .i64 (t.at':Int)] 108)).drewN n)=.ok (.tuple #[.int .u32 0,.bool false]) ((w1.alloc (.cells #[.string (bs t.text),.int .i64 (t.at':Int)] 108)).drewN n):=(fun n=>by have:=(((hM.only ho1 hmb).alloc (.cells #[.string (bs t.text),.int .i64 (t.at':Int)] 108)).drewN n).look (s:=t.text) (by omega);rw [HF.out] at this;exact this);have hl1:=az.lt)
   go_quiet (fail)
   go_wp2_with (go_at_call 53;refine (bR 22 t.at' _).mono ?_;rintro e w3 ⟨rfl,rfl⟩)
   exact⟨rfl,rfl,(ho1.alloc _).drewN _⟩
  | some b=>
   have hF:nG E ts=.ok (b,bK):=by unfold nG;rw [hnm];simp only [hf]
   rw [hF]
   have HF:=zH hf
   clear hF hnm hn hs hf
   go_enter Tryz.func109,Tryz.ntmps109
   go_wp2_with (go_at_call 107;refine HN.out.mono ?_;rintro e w1 ⟨rfl,hi1,ho1⟩;have HI1:=zH hi1;obtain⟨i1,az,_,_⟩:=hi1;have d7:=az.c7;have hlk:∀n,(Instr.lookup 80 (.map (some x.mb)) (.string (bs t.text)) true).run Tryz.prog ((w1.alloc (.cells #[.string (bs t.text),.int .i64 (t.at':Int)] 108)).drewN n)=.ok (.tuple #[.int .u32 b,.bool true]) ((w1.alloc (.cells #[.string (bs t.text),.int .i64 (t.at':Int)] 108)).drewN n):=(fun n=>by have:=(((hM.only ho1 hmb).alloc (.cells #[.string (bs t.text),.int .i64 (t.at':Int)] 108)).drewN n).look (s:=t.text) (by omega);rw [HF.out] at this;exact this);have hl1:=az.lt)
   go_quiet (fail)
   go_wp2_with fail
   go_ret
   exact⟨rfl,(HI1.out.alloc _).only ((Only.refl (fun _=>False) _).drewN _) (fun h=>h),(ho1.alloc _).drewN _⟩
theorem uh (E:Rl.Env) (t:Rl.Tk) (ts:List Rl.Tk) (acc:Int):Rl.names E (t::ts) acc=if t.bad=true then .error (20,t.at') else if Rl.fe t=true then
   match Rl.find E t.text with
   | none=>.error (22,t.at')
   | some b=>Rl.names E ts (Rl.gu acc b)
  else .ok (acc,t::ts):=rfl
theorem lv (t:Rl.Tk) (ts:List Rl.Tk):Rl.name (t::ts)=if t.bad=true then .error (20,t.at') else if Rl.fe t=true then .ok (t,ts) else .error (21,t.at'):=rfl
theorem wG {E:Rl.Env} {t:Rl.Tk} {ts:List Rl.Tk} {b:Int} (hb:¬ t.bad=true) (hn:Rl.fe t=true) (hf:Rl.find E t.text=some b):nG E (t::ts)=.ok (b,ts):=by
 unfold nG
 rw [lv,if_neg hb,if_pos hn]
 simp only [hf]
theorem wH {E:Rl.Env} {t:Rl.Tk} {ts:List Rl.Tk} (hb:¬ t.bad=true) (hn:Rl.fe t=true) (hf:Rl.find E t.text=none):nG E (t::ts)=.error (22,t.at'):=by
 unfold nG
 rw [lv,if_neg hb,if_pos hn]
 simp only [hf]
theorem di (E:Rl.Env) (rb:Nat) (S:ByteArray) (x:Rd) (ts:List Rl.Tk) (w:World) (h:In w rb S x ts) (hS:S.size≤4096) (hM:Mp w x.mb E) (hmb:x.mb≠rb):
  Calls Tryz.prog 88 #[.pointer (some ⟨rb,0,none⟩)] w (UI rb S x w (Rl.names E ts 0)):=by
 have HI:=zH h
 have HM:=zH hM
 clear h hM
 obtain⟨F,hF⟩:∃F,F=Rl.names E ts 0:=⟨_,rfl⟩
 have HF:=zH hF
 rw [←hF]
 clear hF
 go_enter Tryz.func88,Tryz.ntmps88
 go_wp2_with fail
 go_loopg [3] ts.length (fun k v wr=>∃(bH:List Rl.Tk) (acc:Int),k=bH.length∧v=.int .u32 acc∧In wr rb S x bH∧Only (·=rb) w wr∧Hid (F=Rl.names E bH acc))
 case atStart=>exact⟨ts,0,rfl,rfl,HI.out,Only.refl _ _,HF.out⟩
 case round=>
  obtain⟨bH,acc,rfl,rfl,zm,hOr,Ej⟩:=hrel
  cases bH with
  | nil=>obtain⟨i,_,h2,_⟩:=zm;exact h2.elim
  | cons t bH=>
   have iT:=zH zm
   have HOr:=zH hOr
   have M_:Hid (Mp wr x.mb E):=HM.out.only hOr hmb
   have aJ:=Ej.out
   rw [uh] at aJ
   clear zm hOr Ej
   by_cases hb:t.bad=true
   ·have HB:=zH hb
    rw [if_pos hb] at aJ
    have HE:=zH aJ
    clear hb aJ
    go_wp2_with (go_at_call 52;refine (iZ rb S x t bH _ iT.out hS HB.out).mono ?_;rintro e w1 ⟨rfl,ho1⟩)
    refine⟨rfl,?_⟩
    rw [HE.out]
    exact⟨rfl,HOr.out.trans ho1⟩
   ·have HB:=zH hb
    rw [if_neg hb] at aJ
    by_cases hnm:Rl.fe t=true
    ·have hq:decide (0 < Rl.jR t.text)=true:=hnm
     have HNM:=zH hnm
     rw [if_pos hnm] at aJ
     cases hf:Rl.find E t.text with
     | none=>
      rw [hf] at aJ
      have HE:=zH aJ
      have HC:Hid (nG E (t::bH)=.error (22,t.at')):=wH hb hnm hf
      clear hb hnm aJ hf
      go_wp2_with (first |(go_at_call 52;refine (bB rb S x t bH _ iT.out hS HB.out).mono ?_;rintro e w1 ⟨rfl,az,hs1,he1,ho1⟩;have lu:=zH hs1;clear hs1) |(go_at_call 85;refine (bN t.text _ _ (by omega)).mono ?_;rintro e w2 ⟨rfl,ho2⟩;have hI2:In w2 rb S x (t::bH):=⟨_,az.only ho2 (fun h=>h),lu.out,by omega⟩;have HI2:=zH hI2;clear hI2;have qL:Only (·=rb) wr w2:=ho1.trans (ho2.mono (fun _ h=>h.elim));have Jb:=zH qL;clear qL) |(go_at_call 109;have hc:=iD E rb S x (t::bH) _ HI2.out hS (M_.out.only Jb.out hmb) hmb;rw [HC.out] at hc;refine hc.mono ?_;clear hc;rintro e w3 ⟨rfl,ho3⟩))
      refine⟨rfl,?_⟩
      rw [HE.out]
      exact⟨rfl,HOr.out.trans (Jb.out.trans ho3)⟩
     | some b=>
      rw [hf] at aJ
      have HE:=zH aJ
      have HC:Hid (nG E (t::bH)=.ok (b,bH)):=wG hb hnm hf
      clear hb hnm aJ hf
      go_wp2_with (first |(go_at_call 52;refine (bB rb S x t bH _ iT.out hS HB.out).mono ?_;rintro e w1 ⟨rfl,az,hs1,he1,ho1⟩;have lu:=zH hs1;clear hs1) |(go_at_call 85;refine (bN t.text _ _ (by omega)).mono ?_;rintro e w2 ⟨rfl,ho2⟩;have hI2:In w2 rb S x (t::bH):=⟨_,az.only ho2 (fun h=>h),lu.out,by omega⟩;have HI2:=zH hI2;clear hI2;have qL:Only (·=rb) wr w2:=ho1.trans (ho2.mono (fun _ h=>h.elim));have Jb:=zH qL;clear qL) |(go_at_call 109;have hc:=iD E rb S x (t::bH) _ HI2.out hS (M_.out.only Jb.out hmb) hmb;rw [HC.out] at hc;refine hc.mono ?_;clear hc;rintro e w3 ⟨rfl,hi3,ho3⟩))
      go_roundg bH.length
      case measure=>simp
      case rel=>exact⟨bH,Rl.gu acc b,rfl,rfl,hi3,HOr.out.trans (Jb.out.trans ho3),HE.out⟩
    ·have hq:decide (0 < Rl.jR t.text)=false:=by simpa [ky] using hnm
     rw [if_neg hnm] at aJ
     have HE:=zH aJ
     clear hb hnm aJ
     go_wp2_with (first |(go_at_call 52;refine (bB rb S x t bH _ iT.out hS HB.out).mono ?_;rintro e w1 ⟨rfl,az,hs1,he1,ho1⟩;have lu:=zH hs1;clear hs1) |(go_at_call 85;refine (bN t.text _ _ (by omega)).mono ?_;rintro e w2 ⟨rfl,ho2⟩))
     go_ret
     rw [HE.out]
     exact⟨rfl,⟨_,az.only ho2 (fun h=>h),lu.out,by omega⟩,HOr.out.trans (ho1.trans (ho2.mono (fun _ h=>h.elim)))⟩
theorem In.setOther {w:World} {rb:Nat} {S:ByteArray} {x:Rd} {ts:List Rl.Tk} (h:In w rb S x ts) {p:Addr} (hp:p.block≠rb) (v:Value):In (w.setCell p v) rb S x ts:=by
 obtain⟨i,h1,h2⟩:=h
 exact⟨i,h1.setOther hp v,h2⟩
theorem In.drewN {w:World} {rb:Nat} {S:ByteArray} {x:Rd} {ts:List Rl.Tk} (h:In w rb S x ts) (n:Nat):In (w.drewN n) rb S x ts:=h
theorem In.drew {w:World} {rb:Nat} {S:ByteArray} {x:Rd} {ts:List Rl.Tk} (h:In w rb S x ts):In w.drew rb S x ts:=h
theorem xV (a b:Rl.Str):(a==b)=decide (a=b):=by rw [Bool.eq_iff_iff];simp
theorem QV (t:Rl.Tk):Rl.sS t=(Rl.fe t || t.text==[46] || t.text==[91] || t.text==[40]):=by unfold Rl.sS;rw [xV,xV,xV]
theorem El:∀n:Fin 25,(2 ^(n:Nat) % 4294967296 - 1) % 4294967296=((2:Int) ^(n:Nat) - 1)∧(2:Int) ^(n:Nat) % 4294967296=2 ^(n:Nat)∧1≤(2:Int) ^(n:Nat)∧(2:Int) ^(n:Nat)≤16777216:=by decide
theorem eH (t:Rl.Tk) (w:World) (hs:t.text.length≤4096):Calls Tryz.prog 134 #[.agg #[.string (bs t.text),.int .i64 (t.at':Int)]] w fun e w'=>e=.returned (.bool (Rl.sS t))∧Only (fun _=>False) w w':=by
 have ht:=bZ t.text
 have h1:(⟨#[46]⟩:ByteArray).toList=[46]:=by rw [Lib.toList_data]
 have h2:(⟨#[91]⟩:ByteArray).toList=[91]:=by rw [Lib.toList_data]
 have h3:(⟨#[40]⟩:ByteArray).toList=[40]:=by rw [Lib.toList_data]
 have hB:Hid (Rl.sS t=(Rl.fe t || t.text==[46] || t.text==[91] || t.text==[40])):=QV t
 obtain⟨b,hb⟩:∃b,b=Rl.sS t:=⟨_,rfl⟩
 have HB:=zH hb
 rw [←hb]
 clear hb
 by_cases hnm:Rl.fe t=true
 ·have hq:decide (0 < Rl.jR t.text)=true:=hnm
  have HM:=zH hnm
  clear hnm
  go_enter Tryz.func134,Tryz.ntmps134
  go_wp2_with (go_at_call 85;refine (bN t.text _ _ (by omega)).mono ?_;rintro e w2 ⟨rfl,ho2⟩)
  go_ret
  refine⟨?_,((Only.refl _ w).alloc _).trans ho2⟩
  rw [HB.out,hB.out,HM.out]
  rfl
 ·have hq:decide (0 < Rl.jR t.text)=false:=by simpa [ky] using hnm
  have HM:Hid (Rl.fe t=false):=(by simpa using hnm:Rl.fe t=false)
  clear hnm
  go_enter Tryz.func134,Tryz.ntmps134
  go_wp2_with (go_at_call 85;refine (bN t.text _ _ (by omega)).mono ?_;rintro e w2 ⟨rfl,ho2⟩;have P2:Hid (Pb w2 w.heap.size t.text t.at'):=(Pb.new w _ _).only ho2 (fun h=>h);have p0:=P2.out.c0)
  all_goals
   go_ret
   refine⟨?_,((Only.refl _ w).alloc _).trans ho2⟩
   have:=hB.out
   rw [←HB.out,HM.out] at this
   refine congrArg (fun b=>Ending.returned (.bool b)) (?_:_=b)
   rw [this]
   simp [*]
theorem dm (E:Rl.Env) (rb:Nat) (S:ByteArray) (x:Rd) (ts:List Rl.Tk) (w:World) (h:In w rb S x ts) (hS:S.size≤4096) (hM:Mp w x.mb E) (hmb:x.mb≠rb):
  Calls Tryz.prog 86 #[.pointer (some ⟨rb,0,none⟩)] w (Py rb S x w (Rl.fresh E ts)):=by
 have hn:=fun o=>uf rb S x ts (w.alloc o) (h.alloc o) hS
 have hlt:=h.lt
 obtain⟨i,_,hs,hi⟩:=h
 cases hnm:Rl.name ts with
 | error f=>
  have hF:Rl.fresh E ts=.error f:=by unfold Rl.fresh;rw [hnm]
  rw [hF]
  rw [hnm] at hn
  have HN:=zH hn
  clear hF hnm hn hs
  go_enter Tryz.func86,Tryz.ntmps86
  go_wp2_with (go_at_call 107;refine (HN.out _).mono ?_;rintro e w1 ⟨rfl,ho1⟩)
  exact⟨rfl,rfl,((Only.refl _ w).alloc _).trans ho1⟩
 | ok r=>
  obtain⟨t,bK⟩:=r
  obtain⟨_,htl⟩:=oZ hs hnm
  rw [←Lib.size_eq] at htl
  rw [hnm] at hn
  have HN:=zH hn
  cases hf:Rl.find E t.text with
  | some b=>
   have hF:Rl.fresh E ts=.error (23,t.at'):=by unfold Rl.fresh;rw [hnm];simp only [hf];rfl
   rw [hF]
   have HF:=zH hf
   clear hF hnm hn hs hf
   go_enter Tryz.func86,Tryz.ntmps86
   go_wp2_with (go_at_call 107;refine (HN.out _).mono ?_;rintro e w1 ⟨rfl,hi1,ho1⟩;have HI1:=zH hi1;obtain⟨i1,az,_,_⟩:=hi1;have d7:=az.c7;have hlk:∀n,(Instr.lookup 80 (.map (some x.mb)) (.string (bs t.text)) true).run Tryz.prog ((w1.alloc (.cells #[.string (bs t.text),.int .i64 (t.at':Int)] 108)).drewN n)=.ok (.tuple #[.int .u32 b,.bool true]) ((w1.alloc (.cells #[.string (bs t.text),.int .i64 (t.at':Int)] 108)).drewN n):=(fun n=>by have:=((((hM.alloc _).only ho1 hmb).alloc (.cells #[.string (bs t.text),.int .i64 (t.at':Int)] 108)).drewN n).look (s:=t.text) (by omega);rw [HF.out] at this;exact this);have hl1:=az.lt)
   go_quiet (fail)
   go_wp2_with (go_at_call 53;refine (bR 23 t.at' _).mono ?_;rintro e w3 ⟨rfl,rfl⟩)
   exact⟨rfl,rfl,((((Only.refl _ w).alloc _).trans ho1).alloc _).drewN _⟩
  | none=>
   have hF:Rl.fresh E ts=.ok (t,bK):=by unfold Rl.fresh;rw [hnm];simp only [hf];rfl
   rw [hF]
   have HF:=zH hf
   clear hF hnm hn hs hf
   go_enter Tryz.func86,Tryz.ntmps86
   go_wp2_with (go_at_call 107;refine (HN.out _).mono ?_;rintro e w1 ⟨rfl,hi1,ho1⟩;have HI1:=zH hi1;obtain⟨i1,az,_,_⟩:=hi1;have d7:=az.c7;have hlk:∀n,(Instr.lookup 80 (.map (some x.mb)) (.string (bs t.text)) true).run Tryz.prog ((w1.alloc (.cells #[.string (bs t.text),.int .i64 (t.at':Int)] 108)).drewN n)=.ok (.tuple #[.int .u32 0,.bool false]) ((w1.alloc (.cells #[.string (bs t.text),.int .i64 (t.at':Int)] 108)).drewN n):=(fun n=>by have:=((((hM.alloc _).only ho1 hmb).alloc (.cells #[.string (bs t.text),.int .i64 (t.at':Int)] 108)).drewN n).look (s:=t.text) (by omega);rw [HF.out] at this;exact this);have hl1:=az.lt;have Q3:Hid (Pb (w1.alloc (.cells #[.string (bs t.text),.int .i64 (t.at':Int)] 108)) w.heap.size [] 0):=((Pb.zero w).only ho1 (by omega)).alloc _;have q0:=Q3.out.c0;have q1:=Q3.out.c1;have qf0:=Q3.out.fz 0;have qf1:=Q3.out.fz 1;have hl2:=ho1.size;simp at hl2)
   go_quiet (fail)
   go_wp2_with fail
   refine bodyPost_ret (v:=.agg #[.string (bs t.text),.int .i64 (t.at':Int)]) (by simp [results,Tryz.results86,go_sem,q0,q1]) rfl ?_
   exact⟨rfl,(((HI1.out.alloc _).drewN _).setOther (by show w.heap.size≠rb;omega) _).setOther (by show w.heap.size≠rb;omega) _,((((((Only.refl _ w).alloc _).trans ho1).alloc _).drewN _).aS (Nat.le_refl _) _).aS (Nat.le_refl _) _⟩
theorem Em (n:Nat) (rb:Nat) (S:ByteArray) (i:Int) (x:Rd) (w:World) (hR:bY w rb S i x) (a:Option Addr) (cap:Nat) (hv:x.vC=.slice a n cap) (hn:n≤24):
  Calls Tryz.prog 154 #[.pointer (some ⟨rb,0,none⟩)] w fun e w'=>e=.returned (.int .u32 (Rl.whole n))∧w'=w:=by
 have d2:=hR.c2
 rw [hv] at d2
 have hn':(n:Int)≤24:=by omega
 go_enter Tryz.func154,Tryz.ntmps154
 go_wp2_with fail
 go_ret
 exact⟨congrArg (fun z=>Ending.returned (.int .u32 z)) (El ⟨n,by omega⟩).1,rfl⟩
def Rd.ay (x:Rd) (p:Int):Rd:={ x with pl:=p}
theorem bY.QW {w:World} {rb:Nat} {S:ByteArray} {i:Int} {x:Rd} (h:bY w rb S i x) (v:Int):bY (w.setCell ⟨rb,8,none⟩ (.int .i64 v)) rb S i (x.ay v):=aa h _
theorem In.QW {w:World} {rb:Nat} {S:ByteArray} {x:Rd} {ts:List Rl.Tk} (h:In w rb S x ts) (v:Int):In (w.setCell ⟨rb,8,none⟩ (.int .i64 v)) rb S (x.ay v) ts:=by
 obtain⟨i,h1,h2⟩:=h
 exact⟨i,h1.QW v,h2⟩
theorem Mp.setOther {w:World} {mb:Nat} {E:Rl.Env} (h:Mp w mb E) {p:Addr} (hp:p.block≠mb) (v:Value):Mp (w.setCell p v) mb E:=h.only ((Only.refl (·=p.block) w).setCell (p:=p) rfl v) (fun e=>hp e.symm)
def UJ (rb:Nat) (S:ByteArray) (x:Rd) (w:World) (F:Rl.R (Int × List Rl.Tk × Nat)) (e:Ending) (w':World):Prop:=
 match F with
 | .error f=>e=.panicked (BV f.1 f.2)∧Only (·=rb) w w'
 | .ok (b,ts,p)=>e=.returned (.int .u32 b)∧In w' rb S (x.ay p) ts∧Only (·=rb) w w'
theorem b_ (c:UInt8) (t:Rl.Tk) (ts:List Rl.Tk):Rl.took c (t::ts)=if t.bad=true then .error (20,t.at') else if t.text=[c] then .ok (true,ts) else .ok (false,t::ts):=rfl
theorem FP (E:Rl.Env) (nc:Nat) (t:Rl.Tk) (ts:List Rl.Tk) (p:Nat):Rl.fq E nc (t::ts) p=if p=200 then .error (26,t.at') else if t.text=[46] then .ok (Rl.whole nc,ts,p+1) else if t.text=[91] then
   match Rl.took 94 ts with
   | .error f=>.error f
   | .ok (no,bK)=>match Rl.names E bK 0 with
    | .error f=>.error f
    | .ok (b,dC)=>match Rl.want 93 dC with
     | .error f=>.error f
     | .ok qF=>.ok (if no=true then Rl.without (Rl.whole nc) b else b,qF,p+1)
  else match Rl.find E t.text with
   | none=>.error (22,t.at')
   | some b=>.ok (b,ts,p+1):=rfl
theorem zM (E:Rl.Env) (nc p:Nat) (rb:Nat) (S:ByteArray) (x:Rd) (t:Rl.Tk) (ts:List Rl.Tk) (w:World) (h:In w rb S x (t::ts)) (hS:S.size≤4096) (hM:Mp w x.mb E) (hmb:x.mb≠rb)
  (hb:¬ t.bad=true) (xW:Rl.sS t=true) (hno:t.text≠[40]) (hp:x.pl=(p:Int)) (hp2:p≤200) (a:Option Addr) (cap:Nat) (hv:x.vC=.slice a nc cap) (hnc:nc≤24):
  Calls Tryz.prog 148 #[.pointer (some ⟨rb,0,none⟩)] w (UJ rb S x w (Rl.fq E nc (t::ts) p)):=by
 have HI:=zH h
 obtain⟨i,hR,hs,hi⟩:=h
 have c8:=hR.c8
 have f8:=hR.fz 8
 rw [hp] at c8
 have HB:=zH hb
 clear hs hi hR
 rw [FP]
 by_cases Ce:p=200
 ·rw [if_pos Ce]
  have q:((p:Int)==200)=true:=by simp;omega
  clear Ce
  go_enter Tryz.func148,Tryz.ntmps148
  go_wp2_with (go_at_call 52;refine (bB rb S x t ts _ HI.out hS HB.out).mono ?_;rintro e w2 ⟨rfl,hR2,hs2,he2,ho2⟩)
  rename_i hK
  refine hK _ _ ?_
  go_wp2_with (go_at_call 53;refine (bR 26 t.at' _).mono ?_;rintro e w3 ⟨rfl,rfl⟩)
  exact⟨rfl,rfl,ho2⟩
 ·rw [if_neg Ce]
  have q:((p:Int)==200)=false:=by simp;omega
  obtain⟨y,hy⟩:∃y,y=x.ay ((p+1:Nat):Int):=⟨_,rfl⟩
  have HI1:Hid (In (w.setCell ⟨rb,8,none⟩ (.int .i64 ((p:Int)+1))) rb S y (t::ts)):=by
   rw [hy]
   have e1:(p:Int)+1=((p+1:Nat):Int):=by omega
   rw [e1]
   exact HI.out.QW _
  have bu:Hid (Only (·=rb) w (w.setCell ⟨rb,8,none⟩ (.int .i64 ((p:Int)+1)))):=(Only.refl (·=rb) w).setCell (p:=⟨rb,8,none⟩) rfl _
  have Cf:Hid (Mp (w.setCell ⟨rb,8,none⟩ (.int .i64 ((p:Int)+1))) y.mb E):=by rw [hy];exact hM.setOther (fun e=>hmb e.symm) _
  have Cg:y.mb≠rb:=by rw [hy];exact hmb
  have hvy:Hid (y.vC=.slice a nc cap):=by rw [hy];exact hv
  have HY:=zH hy
  have hp1:(p:Int) < 200:=by omega
  clear Ce hy hv hp
  by_cases h46:t.text=[46]
  ·rw [if_pos h46]
   have T1:Hid (Rl.took 46 (t::ts)=.ok (true,ts)):=by show Rl.took 46 (t::ts)=.ok (true,ts);rw [b_,if_neg hb,if_pos h46]
   clear hb h46 xW hno
   go_enter Tryz.func148,Tryz.ntmps148
   go_wp2_with (first |(go_at_call 74;have hc:=aF 46 rb S y (t::ts) _ HI1.out hS;rw [T1.out] at hc;refine hc.mono ?_;clear hc;rintro e w2 ⟨rfl,hI2,ho2⟩;have HI2:=zH hI2;obtain⟨i2,hR2,_,_⟩:=hI2) |(go_at_call 154;refine (Em nc rb S _ y _ hR2 a cap hvy.out hnc).mono ?_;rintro e w3 ⟨rfl,rfl⟩))
   go_ret
   refine⟨rfl,?_,bu.out.trans ho2⟩
   rw [←HY.out]
   exact HI2.out
  ·rw [if_neg h46]
   have T1:Hid (Rl.took 46 (t::ts)=.ok (false,t::ts)):=by show Rl.took 46 (t::ts)=.ok (false,t::ts);rw [b_,if_neg hb,if_neg h46]
   by_cases zN:t.text=[91]
   ·rw [if_pos zN]
    have T2:Hid (Rl.took 91 (t::ts)=.ok (true,ts)):=by show Rl.took 91 (t::ts)=.ok (true,ts);rw [b_,if_neg hb,if_pos zN]
    clear hb h46 zN xW hno
    cases XJ:Rl.took 94 ts with
    | error f=>
     have T3:=zH XJ
     clear XJ
     simp only
     go_enter Tryz.func148,Tryz.ntmps148
     go_wp2_with (first |(go_at_call_of 74 (Value.string ⟨#[46]⟩);have hc:=aF 46 rb S y (t::ts) _ HI1.out hS;rw [T1.out] at hc;refine hc.mono ?_;clear hc;rintro e w2 ⟨rfl,hI2,ho2⟩;have HI2:=zH hI2;clear hI2) |(go_at_call_of 74 (Value.string ⟨#[91]⟩);have hc:=aF 91 rb S y (t::ts) _ HI2.out hS;rw [T2.out] at hc;refine hc.mono ?_;clear hc;rintro e w3 ⟨rfl,dQ,ho3⟩;have HI3:=zH dQ;clear dQ) |(go_at_call_of 74 (Value.string ⟨#[94]⟩);have hc:=aF 94 rb S y ts _ HI3.out hS;rw [T3.out] at hc;refine hc.mono ?_;clear hc;rintro e w4 ⟨rfl,bI⟩))
     exact⟨rfl,rfl,bu.out.trans (ho2.trans (ho3.trans bI))⟩
    | ok r=>
     obtain⟨no,bK⟩:=r
     have T3:=zH XJ
     clear XJ
     simp only
     cases hnm:Rl.names E bK 0 with
     | error f=>
      have T4:=zH hnm
      clear hnm
      simp only
      go_enter Tryz.func148,Tryz.ntmps148
      go_wp2_with (first |(go_at_call_of 74 (Value.string ⟨#[46]⟩);have hc:=aF 46 rb S y (t::ts) _ HI1.out hS;rw [T1.out] at hc;refine hc.mono ?_;clear hc;rintro e w2 ⟨rfl,hI2,ho2⟩;have HI2:=zH hI2;clear hI2) |(go_at_call_of 74 (Value.string ⟨#[91]⟩);have hc:=aF 91 rb S y (t::ts) _ HI2.out hS;rw [T2.out] at hc;refine hc.mono ?_;clear hc;rintro e w3 ⟨rfl,dQ,ho3⟩;have HI3:=zH dQ;clear dQ) |(go_at_call_of 74 (Value.string ⟨#[94]⟩);have hc:=aF 94 rb S y ts _ HI3.out hS;rw [T3.out] at hc;refine hc.mono ?_;clear hc;rintro e w4 ⟨rfl,nH,bI⟩;have HI4:=zH nH;clear nH;have eD:Hid (Only (·=rb) w w4):=bu.out.trans (ho2.trans (ho3.trans bI));have MC:Hid (Mp w4 y.mb E):=Cf.out.only (ho2.trans (ho3.trans bI)) Cg) |(go_at_call 88;have hc:=di E rb S y bK _ HI4.out hS MC.out Cg;rw [T4.out] at hc;refine hc.mono ?_;clear hc;rintro e w5 ⟨rfl,df⟩))
      exact⟨rfl,rfl,eD.out.trans df⟩
     | ok r=>
      obtain⟨b,dC⟩:=r
      have T4:=zH hnm
      clear hnm
      simp only
      cases hwt:Rl.want 93 dC with
      | error f=>
       have T5:=zH hwt
       clear hwt
       simp only
       go_enter Tryz.func148,Tryz.ntmps148
       go_wp2_with (first |(go_at_call_of 74 (Value.string ⟨#[46]⟩);have hc:=aF 46 rb S y (t::ts) _ HI1.out hS;rw [T1.out] at hc;refine hc.mono ?_;clear hc;rintro e w2 ⟨rfl,hI2,ho2⟩;have HI2:=zH hI2;clear hI2) |(go_at_call_of 74 (Value.string ⟨#[91]⟩);have hc:=aF 91 rb S y (t::ts) _ HI2.out hS;rw [T2.out] at hc;refine hc.mono ?_;clear hc;rintro e w3 ⟨rfl,dQ,ho3⟩;have HI3:=zH dQ;clear dQ) |(go_at_call_of 74 (Value.string ⟨#[94]⟩);have hc:=aF 94 rb S y ts _ HI3.out hS;rw [T3.out] at hc;refine hc.mono ?_;clear hc;rintro e w4 ⟨rfl,nH,bI⟩;have HI4:=zH nH;clear nH;have eD:Hid (Only (·=rb) w w4):=bu.out.trans (ho2.trans (ho3.trans bI));have MC:Hid (Mp w4 y.mb E):=Cf.out.only (ho2.trans (ho3.trans bI)) Cg) |(go_at_call 88;have hc:=di E rb S y bK _ HI4.out hS MC.out Cg;rw [T4.out] at hc;refine hc.mono ?_;clear hc;rintro e w5 ⟨rfl,Pz,df⟩;have UK:=zH Pz;clear Pz) |(go_at_call 55;have hc:=aU 93 rb S y dC _ UK.out hS;rw [T5.out] at hc;refine hc.mono ?_;clear hc;rintro e w6 ⟨rfl,qM⟩))
       exact⟨rfl,rfl,eD.out.trans (df.trans qM)⟩
      | ok qF=>
       have T5:=zH hwt
       clear hwt
       simp only
       cases no
       ·go_enter Tryz.func148,Tryz.ntmps148
        go_wp2_with (first |(go_at_call_of 74 (Value.string ⟨#[46]⟩);have hc:=aF 46 rb S y (t::ts) _ HI1.out hS;rw [T1.out] at hc;refine hc.mono ?_;clear hc;rintro e w2 ⟨rfl,hI2,ho2⟩;have HI2:=zH hI2;clear hI2) |(go_at_call_of 74 (Value.string ⟨#[91]⟩);have hc:=aF 91 rb S y (t::ts) _ HI2.out hS;rw [T2.out] at hc;refine hc.mono ?_;clear hc;rintro e w3 ⟨rfl,dQ,ho3⟩;have HI3:=zH dQ;clear dQ) |(go_at_call_of 74 (Value.string ⟨#[94]⟩);have hc:=aF 94 rb S y ts _ HI3.out hS;rw [T3.out] at hc;refine hc.mono ?_;clear hc;rintro e w4 ⟨rfl,nH,bI⟩;have HI4:=zH nH;clear nH;have eD:Hid (Only (·=rb) w w4):=bu.out.trans (ho2.trans (ho3.trans bI));have MC:Hid (Mp w4 y.mb E):=Cf.out.only (ho2.trans (ho3.trans bI)) Cg) |(go_at_call 88;have hc:=di E rb S y bK _ HI4.out hS MC.out Cg;rw [T4.out] at hc;refine hc.mono ?_;clear hc;rintro e w5 ⟨rfl,Pz,df⟩;have UK:=zH Pz;clear Pz) |(go_at_call 55;have hc:=aU 93 rb S y dC _ UK.out hS;rw [T5.out] at hc;refine hc.mono ?_;clear hc;rintro e w6 ⟨rfl,XK,qM⟩))
        go_ret
        refine⟨rfl,?_,eD.out.trans (df.trans qM)⟩
        rw [←HY.out]
        exact XK
       ·go_enter Tryz.func148,Tryz.ntmps148
        go_wp2_with (first |(go_at_call_of 74 (Value.string ⟨#[46]⟩);have hc:=aF 46 rb S y (t::ts) _ HI1.out hS;rw [T1.out] at hc;refine hc.mono ?_;clear hc;rintro e w2 ⟨rfl,hI2,ho2⟩;have HI2:=zH hI2;clear hI2) |(go_at_call_of 74 (Value.string ⟨#[91]⟩);have hc:=aF 91 rb S y (t::ts) _ HI2.out hS;rw [T2.out] at hc;refine hc.mono ?_;clear hc;rintro e w3 ⟨rfl,dQ,ho3⟩;have HI3:=zH dQ;clear dQ) |(go_at_call_of 74 (Value.string ⟨#[94]⟩);have hc:=aF 94 rb S y ts _ HI3.out hS;rw [T3.out] at hc;refine hc.mono ?_;clear hc;rintro e w4 ⟨rfl,nH,bI⟩;have HI4:=zH nH;clear nH;have eD:Hid (Only (·=rb) w w4):=bu.out.trans (ho2.trans (ho3.trans bI));have MC:Hid (Mp w4 y.mb E):=Cf.out.only (ho2.trans (ho3.trans bI)) Cg) |(go_at_call 88;have hc:=di E rb S y bK _ HI4.out hS MC.out Cg;rw [T4.out] at hc;refine hc.mono ?_;clear hc;rintro e w5 ⟨rfl,Pz,df⟩;have UK:=zH Pz;clear Pz) |(go_at_call 55;have hc:=aU 93 rb S y dC _ UK.out hS;rw [T5.out] at hc;refine hc.mono ?_;clear hc;rintro e w6 ⟨rfl,XK,qM⟩;have HI6:=zH XK;obtain⟨i6,ui,_,_⟩:=XK) |(go_at_call 154;refine (Em nc rb S _ y _ ui a cap hvy.out hnc).mono ?_;rintro e w7 ⟨rfl,rfl⟩))
        go_ret
        refine⟨rfl,?_,eD.out.trans (df.trans qM)⟩
        rw [←HY.out]
        exact HI6.out
   ·rw [if_neg zN]
    have T2:Hid (Rl.took 91 (t::ts)=.ok (false,t::ts)):=by show Rl.took 91 (t::ts)=.ok (false,t::ts);rw [b_,if_neg hb,if_neg zN]
    have hnm:Rl.fe t=true:=by
     unfold Rl.sS at xW
     simpa [h46,zN,hno] using xW
    cases hf:Rl.find E t.text with
    | none=>
     have T3:Hid (nG E (t::ts)=.error (22,t.at')):=wH hb hnm hf
     clear hb h46 zN xW hno hf hnm
     simp only
     go_enter Tryz.func148,Tryz.ntmps148
     go_wp2_with (first |(go_at_call_of 74 (Value.string ⟨#[46]⟩);have hc:=aF 46 rb S y (t::ts) _ HI1.out hS;rw [T1.out] at hc;refine hc.mono ?_;clear hc;rintro e w2 ⟨rfl,hI2,ho2⟩;have HI2:=zH hI2;clear hI2) |(go_at_call_of 74 (Value.string ⟨#[91]⟩);have hc:=aF 91 rb S y (t::ts) _ HI2.out hS;rw [T2.out] at hc;refine hc.mono ?_;clear hc;rintro e w3 ⟨rfl,dQ,ho3⟩;have HI3:=zH dQ;clear dQ;have fK:Hid (Only (·=rb) w w3):=bu.out.trans (ho2.trans ho3);have FQ:Hid (Mp w3 y.mb E):=Cf.out.only (ho2.trans ho3) Cg) |(go_at_call 109;have hc:=iD E rb S y (t::ts) _ HI3.out hS FQ.out Cg;rw [T3.out] at hc;refine hc.mono ?_;clear hc;rintro e w4 ⟨rfl,bI⟩))
     exact⟨rfl,rfl,fK.out.trans bI⟩
    | some b=>
     have T3:Hid (nG E (t::ts)=.ok (b,ts)):=wG hb hnm hf
     clear hb h46 zN xW hno hf hnm
     simp only
     go_enter Tryz.func148,Tryz.ntmps148
     go_wp2_with (first |(go_at_call_of 74 (Value.string ⟨#[46]⟩);have hc:=aF 46 rb S y (t::ts) _ HI1.out hS;rw [T1.out] at hc;refine hc.mono ?_;clear hc;rintro e w2 ⟨rfl,hI2,ho2⟩;have HI2:=zH hI2;clear hI2) |(go_at_call_of 74 (Value.string ⟨#[91]⟩);have hc:=aF 91 rb S y (t::ts) _ HI2.out hS;rw [T2.out] at hc;refine hc.mono ?_;clear hc;rintro e w3 ⟨rfl,dQ,ho3⟩;have HI3:=zH dQ;clear dQ;have fK:Hid (Only (·=rb) w w3):=bu.out.trans (ho2.trans ho3);have FQ:Hid (Mp w3 y.mb E):=Cf.out.only (ho2.trans ho3) Cg) |(go_at_call 109;have hc:=iD E rb S y (t::ts) _ HI3.out hS FQ.out Cg;rw [T3.out] at hc;refine hc.mono ?_;clear hc;rintro e w4 ⟨rfl,nH,bI⟩))
     go_ret
     refine⟨rfl,?_,fK.out.trans bI⟩
     rw [←HY.out]
     exact nH
end Go.Proofs.YtdlabakleldgaaaGreatDoor
