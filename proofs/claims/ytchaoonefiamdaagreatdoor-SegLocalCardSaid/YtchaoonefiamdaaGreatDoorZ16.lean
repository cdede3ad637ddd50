/- Class -/
import Derived.Test.YtchaoonefiamdaaGreatDoorZ15
namespace Go.Proofs.YtchaoonefiamdaaGreatDoor
open Go.RowKit Go.Maps
set_option linter.unusedVariables false
set_option linter.unusedSimpArgs false
theorem info9:(Tryz.prog.info? 9).map (fun i=>(i.zero,i.size,i.bytes))=some (some (.string ⟨#[]⟩),1,16):=by kernel_rfl
theorem info3:(Tryz.prog.info? 3).map (fun i=>(i.zero,i.size,i.bytes))=some (some (.int .i64 0),1,8):=by kernel_rfl
theorem Rdr.set2 {w:World} {rb:Nat} {S:ByteArray} {i:Int} {x:Rd} (h:Rdr w rb S i x) (v:Value):Rdr (w.setCell ⟨rb,2,none⟩ v) rb S i { x with vC:=v }:=heap_setCell_at h _
theorem Rdr.set5 {w:World} {rb:Nat} {S:ByteArray} {i:Int} {x:Rd} (h:Rdr w rb S i x) (v:Value):Rdr (w.setCell ⟨rb,5,none⟩ v) rb S i { x with vT:=v }:=heap_setCell_at h _
structure Prt (w:World) (rb:Nat) (x:Rd) (s:Rl.St) (C:List Rl.Str) (T:List Int):Prop where
  cls:w.ownsRow (rb+1) 9 1 x.vC C.length (strs C)
  trt:w.ownsRow (rb+1) 3 1 x.vT T.length (ints T)
  lst:Rls w (rb+1) x.vL s.list
  mp:Mp w x.mb s.env
  jn:x.j=s.join
  af:x.a=s.after
  pl:x.pl=(s.places:Int)
  op:x.op=0
  mb:x.mb < rb
  l24:s.list.length≤24
  p200:s.places≤200
theorem Stt.tlen {w:World} {rb:Nat} {x:Rd} {s:Rl.St} (h:Stt w rb x s):s.treat.length=s.cls.length:=by
  have:=h.trt.1
  unfold ints at this
  rw [List.length_map] at this
  omega
theorem Stt.prt {w:World} {rb:Nat} {x:Rd} {s:Rl.St} (h:Stt w rb x s):Prt w rb x s s.cls s.treat:=⟨h.cls,by rw [h.tlen];exact h.trt,h.lst,h.mp,h.jn,h.af,h.pl,h.op,h.mb,h.l24,h.p200⟩
theorem own_notag {w:World} {base e size n:Nat} {v:Value} {xs:List Value} (hx:w.ownsRow base e size v n xs):∀ e',e'≠e→∀ q,v.ownBlock=some q→∀ cur z,w.heap[q]?≠some (.cells cur e' z):=fun e' he q hq cur z hh=>by
  obtain ⟨_,⟨hv,_⟩ | ⟨g',cap',cur',hv,hb,hh',_⟩⟩:=hx
  · rw [hv] at hq;cases hq
  · rw [hv] at hq
    injection hq with hq
    simp only at hq
    subst hq
    rw [hh'] at hh
    injection hh with hh
    injection hh with _ h2
    exact he h2.symm
theorem Prt.addC {wa wb w':World} {rb:Nat} {x:Rd} {s:Rl.St} {C:List Rl.Str} {T:List Int} {c:Rl.Str} {v':Value} (h:Prt wa rb x s C T) (hwb:Only (fun _=>False) wa wb) (hown:w'.ownsRow (rb+1) 9 1 v' (C.length+1) (strs C++[.string (bs c)])) (hg:wb.grownBy w' x.vC.ownBlock) (hcl:Cl wa rb) :
    Prt (w'.setCell ⟨rb,2,none⟩ v') rb { x with vC:=v' } s (C++[c]) T∧Fr rb x.mb wa (w'.setCell ⟨rb,2,none⟩ v')∧(rb < wa.heap.size→w'.heap[rb]?=wa.heap[rb]?)∧Only (fun g=>x.vC.ownBlock=some g) wa w':=by
  have hO:Only (fun g=>x.vC.ownBlock=some g) wa w':=(hwb.mono (fun _ h=>h.elim)).grown hg (fun k hk=>hk)
  have hOl:∀ g,x.vC.ownBlock=some g→rb+1≤g:=fun g hg=>(h.cls.lt g hg).1
  have htag:=own_notag h.cls
  have hset:Only (·=rb) w' (w'.setCell ⟨rb,2,none⟩ v'):=(Only.refl (·=rb) w').setCell (p:=⟨rb,2,none⟩) rfl _
  have hmb:=h.mb
  refine ⟨⟨own_only (by rw [List.length_append];unfold strs at hown ⊢;rw [List.map_append];exact hown) hset (fun g hg=>by omega),own_only (own_onlyT h.trt hO (htag 3 (by decide))) hset (fun g hg=>by omega),(h.lst.onlyT hO (htag 90 (by decide)) (htag 88 (by decide))).only hset (fun g hg=>by omega),(h.mp.only hO (fun e=>by have:=hOl _ e;omega)).only hset (by omega),h.jn,h.af,h.pl,h.op,h.mb,h.l24,h.p200⟩,?_,fun hrb=>hO.block rb hrb (fun e=>by have:=hOl _ e;omega),hO⟩
  obtain ⟨cs,t,z,hcc⟩:=hcl
  exact (hO.frOwn h.cls _).trans (hset.fr ⟨cs,t,z,(hO.block rb (Array.getElem?_eq_some_iff.1 hcc).1 (fun e=>by have:=hOl _ e;omega)).trans hcc⟩ _)
theorem Prt.addT {wa wb w':World} {rb:Nat} {x:Rd} {s:Rl.St} {C:List Rl.Str} {T:List Int} {c:Int} {v':Value} (h:Prt wa rb x s C T) (hwb:Only (fun _=>False) wa wb) (hown:w'.ownsRow (rb+1) 3 1 v' (T.length+1) (ints T++[.int .i64 c])) (hg:wb.grownBy w' x.vT.ownBlock) (hcl:Cl wa rb) :
    Prt (w'.setCell ⟨rb,5,none⟩ v') rb { x with vT:=v' } s C (T++[c])∧Fr rb x.mb wa (w'.setCell ⟨rb,5,none⟩ v')∧(rb < wa.heap.size→w'.heap[rb]?=wa.heap[rb]?)∧Only (fun g=>x.vT.ownBlock=some g) wa w':=by
  have hO:Only (fun g=>x.vT.ownBlock=some g) wa w':=(hwb.mono (fun _ h=>h.elim)).grown hg (fun k hk=>hk)
  have hOl:∀ g,x.vT.ownBlock=some g→rb+1≤g:=fun g hg=>(h.trt.lt g hg).1
  have htag:=own_notag h.trt
  have hset:Only (·=rb) w' (w'.setCell ⟨rb,5,none⟩ v'):=(Only.refl (·=rb) w').setCell (p:=⟨rb,5,none⟩) rfl _
  have hmb:=h.mb
  refine ⟨⟨own_only (own_onlyT h.cls hO (htag 9 (by decide))) hset (fun g hg=>by omega),own_only (by rw [List.length_append];unfold ints at hown ⊢;rw [List.map_append];exact hown) hset (fun g hg=>by omega),(h.lst.onlyT hO (htag 90 (by decide)) (htag 88 (by decide))).only hset (fun g hg=>by omega),(h.mp.only hO (fun e=>by have:=hOl _ e;omega)).only hset (by omega),h.jn,h.af,h.pl,h.op,h.mb,h.l24,h.p200⟩,?_,fun hrb=>hO.block rb hrb (fun e=>by have:=hOl _ e;omega),hO⟩
  obtain ⟨cs,t,z,hcc⟩:=hcl
  exact (hO.frOwn h.trt _).trans (hset.fr ⟨cs,t,z,(hO.block rb (Array.getElem?_eq_some_iff.1 hcc).1 (fun e=>by have:=hOl _ e;omega)).trans hcc⟩ _)
theorem Prt.addN {wa w':World} {rb:Nat} {x:Rd} {s:Rl.St} {c:Rl.Str} (h:Prt wa rb x s (s.cls++[c]) (s.treat++[(s.cls.length:Int)])) (hO:Only (·=x.mb) wa w') (hm:Mp w' x.mb (s.env++[(c,2 ^ s.cls.length)])) (hc:s.cls.length < 24) (ht:s.treat.length=s.cls.length):Stt w' rb x (Rl.addClass s c):=by
  have hmb:=h.mb
  have h1:=own_only h.cls hO (fun g hg=>by omega)
  have h2:=own_only h.trt hO (fun g hg=>by omega)
  refine ⟨h1,?_,h.lst.only hO (fun g hg=>by omega),hm,h.jn,h.af,h.pl,h.op,h.mb,by unfold Rl.addClass;simp;omega,h.l24,h.p200⟩
  unfold Rl.addClass
  simp only [List.length_append,List.length_cons,List.length_nil] at h2 ⊢
  rw [ht] at h2
  exact h2
theorem one_news9 (wr:World) (u:Value) (t:TypeId):∀ j x,[u][j]?=some x→(wr.alloc (.cells #[u] t)).cell? ((⟨wr.heap.size,0,none⟩:Addr).add j)=some x:=by
  intro j x hj
  rw [Addr.add_mid,Nat.zero_add,cell_of_row _ _ _ _ _ _ (heap_alloc_new _ _)]
  simpa using hj
theorem keep_any (rb:Nat) (S:ByteArray) (x:Rd) (s:Rl.St) (ts:List Rl.Tk) (w:World) (h:In w rb S x ts) (hS:S.size≤4096) (hT:Stt w rb x s) (tx:Rl.Str) (ti:Nat) :
    Calls Tryz.prog 44 #[.pointer (some ⟨rb,0,none⟩),.agg #[.string (bs tx),.int .i64 (ti:Int)]] w (lineP rb S x.mb w (Rl.rule' 0 ti ts s)):=by
  have hO:Only (·=rb) w (w.alloc (.cells #[.string (bs tx),.int .i64 (ti:Int)] 79)):=(Only.refl (·=rb) w).alloc _
  have hc:=rule_any 0 rb S x s ts _ (h.alloc (.cells #[.string (bs tx),.int .i64 (ti:Int)] 79)) hS (hT.only hO) tx ti
  have HC:Hid (Calls Tryz.prog 65 #[.pointer (some ⟨rb,0,none⟩),.agg #[.string (bs tx),.int .i64 (ti:Int)],.int .u8 0] (w.alloc (.cells #[.string (bs tx),.int .i64 (ti:Int)] 79)) (lineP rb S x.mb (w.alloc (.cells #[.string (bs tx),.int .i64 (ti:Int)] 79)) (Rl.rule' 0 ti ts s))):=hc
  have hcl:=h.cl
  clear hc h hT
  obtain ⟨F,hF⟩:∃ F,F=Rl.rule' 0 ti ts s:=⟨_,rfl⟩
  rw [← hF] at HC ⊢
  clear hF
  cases F with
  | error f =>
    go_enter Tryz.func44,Tryz.ntmps44
    go_wp2_with (go_at_call 65;refine HC.out.mono ?_;rintro e w1 ⟨rfl,ho1⟩)
    exact ⟨rfl,rfl,(hO.fr hcl _).trans ho1⟩
  | ok r =>
    obtain ⟨ts',s'⟩:=r
    go_enter Tryz.func44,Tryz.ntmps44
    go_wp2_with (go_at_call 65;refine HC.out.mono ?_;rintro e w1 ⟨rfl,x',hx',hI',hS',ho1⟩;have HP:Hid (∃ x',x'.mb=x.mb∧In w1 rb S x' ts'∧Stt w1 rb x' s'):=⟨x',hx',hI',hS'⟩;clear hx' hI' hS')
    go_end0
    obtain ⟨x',h1,h2,h3⟩:=HP.out
    exact ⟨rfl,x',h1,h2,h3,(hO.fr hcl _).trans ho1⟩
theorem may_any (rb:Nat) (S:ByteArray) (x:Rd) (s:Rl.St) (ts:List Rl.Tk) (w:World) (h:In w rb S x ts) (hS:S.size≤4096) (hT:Stt w rb x s) (tx:Rl.Str) (ti:Nat) :
    Calls Tryz.prog 45 #[.pointer (some ⟨rb,0,none⟩),.agg #[.string (bs tx),.int .i64 (ti:Int)]] w (lineP rb S x.mb w (Rl.rule' 1 ti ts s)):=by
  have hO:Only (·=rb) w (w.alloc (.cells #[.string (bs tx),.int .i64 (ti:Int)] 79)):=(Only.refl (·=rb) w).alloc _
  have hc:=rule_any 1 rb S x s ts _ (h.alloc (.cells #[.string (bs tx),.int .i64 (ti:Int)] 79)) hS (hT.only hO) tx ti
  have HC:Hid (Calls Tryz.prog 65 #[.pointer (some ⟨rb,0,none⟩),.agg #[.string (bs tx),.int .i64 (ti:Int)],.int .u8 1] (w.alloc (.cells #[.string (bs tx),.int .i64 (ti:Int)] 79)) (lineP rb S x.mb (w.alloc (.cells #[.string (bs tx),.int .i64 (ti:Int)] 79)) (Rl.rule' 1 ti ts s))):=hc
  have hcl:=h.cl
  clear hc h hT
  obtain ⟨F,hF⟩:∃ F,F=Rl.rule' 1 ti ts s:=⟨_,rfl⟩
  rw [← hF] at HC ⊢
  clear hF
  cases F with
  | error f =>
    go_enter Tryz.func45,Tryz.ntmps45
    go_wp2_with (go_at_call 65;refine HC.out.mono ?_;rintro e w1 ⟨rfl,ho1⟩)
    exact ⟨rfl,rfl,(hO.fr hcl _).trans ho1⟩
  | ok r =>
    obtain ⟨ts',s'⟩:=r
    go_enter Tryz.func45,Tryz.ntmps45
    go_wp2_with (go_at_call 65;refine HC.out.mono ?_;rintro e w1 ⟨rfl,x',hx',hI',hS',ho1⟩;have HP:Hid (∃ x',x'.mb=x.mb∧In w1 rb S x' ts'∧Stt w1 rb x' s'):=⟨x',hx',hI',hS'⟩;clear hx' hI' hS')
    go_end0
    obtain ⟨x',h1,h2,h3⟩:=HP.out
    exact ⟨rfl,x',h1,h2,h3,(hO.fr hcl _).trans ho1⟩
theorem must_any (rb:Nat) (S:ByteArray) (x:Rd) (s:Rl.St) (ts:List Rl.Tk) (w:World) (h:In w rb S x ts) (hS:S.size≤4096) (hT:Stt w rb x s) (tx:Rl.Str) (ti:Nat) :
    Calls Tryz.prog 46 #[.pointer (some ⟨rb,0,none⟩),.agg #[.string (bs tx),.int .i64 (ti:Int)]] w (lineP rb S x.mb w (Rl.rule' 2 ti ts s)):=by
  have hO:Only (·=rb) w (w.alloc (.cells #[.string (bs tx),.int .i64 (ti:Int)] 79)):=(Only.refl (·=rb) w).alloc _
  have hc:=rule_any 2 rb S x s ts _ (h.alloc (.cells #[.string (bs tx),.int .i64 (ti:Int)] 79)) hS (hT.only hO) tx ti
  have HC:Hid (Calls Tryz.prog 65 #[.pointer (some ⟨rb,0,none⟩),.agg #[.string (bs tx),.int .i64 (ti:Int)],.int .u8 2] (w.alloc (.cells #[.string (bs tx),.int .i64 (ti:Int)] 79)) (lineP rb S x.mb (w.alloc (.cells #[.string (bs tx),.int .i64 (ti:Int)] 79)) (Rl.rule' 2 ti ts s))):=hc
  have hcl:=h.cl
  clear hc h hT
  obtain ⟨F,hF⟩:∃ F,F=Rl.rule' 2 ti ts s:=⟨_,rfl⟩
  rw [← hF] at HC ⊢
  clear hF
  cases F with
  | error f =>
    go_enter Tryz.func46,Tryz.ntmps46
    go_wp2_with (go_at_call 65;refine HC.out.mono ?_;rintro e w1 ⟨rfl,ho1⟩)
    exact ⟨rfl,rfl,(hO.fr hcl _).trans ho1⟩
  | ok r =>
    obtain ⟨ts',s'⟩:=r
    go_enter Tryz.func46,Tryz.ntmps46
    go_wp2_with (go_at_call 65;refine HC.out.mono ?_;rintro e w1 ⟨rfl,x',hx',hI',hS',ho1⟩;have HP:Hid (∃ x',x'.mb=x.mb∧In w1 rb S x' ts'∧Stt w1 rb x' s'):=⟨x',hx',hI',hS'⟩;clear hx' hI' hS')
    go_end0
    obtain ⟨x',h1,h2,h3⟩:=HP.out
    exact ⟨rfl,x',h1,h2,h3,(hO.fr hcl _).trans ho1⟩
end Go.Proofs.YtchaoonefiamdaaGreatDoor
