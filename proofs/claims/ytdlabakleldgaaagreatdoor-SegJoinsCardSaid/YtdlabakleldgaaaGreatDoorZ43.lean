/- Wg Wh -/
import Derived.Test.YtdlabakleldgaaaGreatDoorZ00
import Derived.Test.YtdlabakleldgaaaGreatDoorZ42
import Derived.Test.YtdlabakleldgaaaGreatDoorZ18
import Derived.Test.YtdlabakleldgaaaGreatDoorZ14
import Derived.Deep.RegionHeld
set_option linter.unusedVariables false
set_option linter.unusedSimpArgs false
set_option maxRecDepth 100000
set_option maxHeartbeats 8000000
namespace Go.Proofs.YtdlabakleldgaaaGreatDoor.W
open Go.RowKit Go.Maps
theorem TD:(Tryz.prog.info? 32).map (fun i=>(i.zero,i.size,i.bytes))=some (some (.int .u32 0),1,4):=by kernel_rfl
theorem aM {w w':World} {base e size n:Nat} {v:Value} {xs:List Value} {P:Nat→Prop} (h:w.ownsRow base e size v n xs) (ho:Only P w w') (hP:∀g,v.ownBlock=some g→¬ P g):w'.ownsRow base e size v n xs:=by
 obtain⟨hl,h | ⟨g,cap,cur,hv,hb,hh,h1⟩⟩:=h
 ·exact⟨hl,Or.inl h⟩
 ·exact⟨hl,Or.inr ⟨g,cap,cur,hv,hb,(ho.block g (Array.getElem?_eq_some_iff.1 hh).1 (hP g (by rw [hv];rfl))).trans hh,h1⟩⟩
theorem bJ {w:World} {base e size n base' e' size' n':Nat} {v v':Value} {xs xs':List Value} (h:w.ownsRow base e size v n xs) (h':w.ownsRow base' e' size' v' n' xs') (hne:e≠e'):∀g,v.ownBlock=some g→¬ v'.ownBlock=some g:=fun g hg hg'=>by
 obtain⟨_,⟨hv,_⟩ | ⟨g1,sM,abI,hv,hb,hh,_⟩⟩:=h
 ·rw [hv] at hg;cases hg
 ·obtain⟨_,⟨hv',_⟩ | ⟨g2,cap2,abJ,hv',hb',hh',_⟩⟩:=h'
  ·rw [hv'] at hg';cases hg'
  ·rw [hv] at hg
   rw [hv'] at hg'
   injection hg with hg
   injection hg' with hg'
   simp only at hg hg'
   subst hg
   subst hg'
   rw [hh] at hh'
   injection hh' with hh'
   injection hh' with _ hh'
   exact hne hh'
structure Rs (w:World) (rb:Nat) (x:Px) (N:List Rl.Str) (B:List Int) (C:List Rl.Str) (T:List Int) (L:List Value) (n:Nat):Prop where
 nm:w.ownsRow (rb+1) 9 1 x.vN N.length (strs N)
 bt:w.ownsRow (rb+1) 32 1 x.vB B.length (LH B)
 cl:w.ownsRow (rb+1) 9 1 x.vC C.length (strs C)
 tr:w.ownsRow (rb+1) 3 1 x.vT T.length (ints T)
 ls:w.ownsRow (rb+1) 119 7 x.vL n L
 ap:∀g,x.vC.ownBlock=some g→¬ x.vN.ownBlock=some g
abbrev Up (rb:Nat) (w w':World):Prop:=Only (fun b=>rb≤b) w w'
theorem up {rb:Nat} {w w':World} (h:Only (·=rb) w w'):Up rb w w':=h.mono (fun b e=>by omega)
theorem Fe {w:World} {base e size n:Nat} {v:Value} {xs:List Value} (h:w.ownsRow base e size v n xs):∀g,v.ownBlock=some g→base≤g:=fun g hg=>(h.lt g hg).1
theorem xA {rb:Nat} {w w':World} {e size n:Nat} {v:Value} {xs:List Value} (h:Only (fun g=>v.ownBlock=some g) w w') (hx:w.ownsRow (rb+1) e size v n xs):Up rb w w':=h.mono (fun b hb=>by have:=Fe hx b hb;omega)
theorem dM {wa wb w':World} {v:Value} (hwb:Only (fun _=>False) wa wb) (hg:wb.grownBy w' v.ownBlock):Only (fun g=>v.ownBlock=some g) wa w':=(hwb.mono (fun _ h=>h.elim)).grown hg (fun k hk=>hk)
theorem Rs.only {w w':World} {rb:Nat} {x:Px} {N C:List Rl.Str} {B T:List Int} {L:List Value} {n:Nat} (h:Rs w rb x N B C T L n) (ho:Only (·=rb) w w'):Rs w' rb x N B C T L n:=
 ⟨ai h.nm ho (fun g hg=>by omega),ai h.bt ho (fun g hg=>by omega),ai h.cl ho (fun g hg=>by omega),ai h.tr ho (fun g hg=>by omega),ai h.ls ho (fun g hg=>by omega),h.ap⟩
section
variable {wa wb w':World} {rb n:Nat} {x:Px} {N C:List Rl.Str} {B T:List Int} {L:List Value} {v':Value}
theorem Rs.apart (h:Rs wa rb x N B C T L n) (hwb:Only (fun _=>False) wa wb) {v1 v2:Value} (ha:∀g,v1.ownBlock=some g→¬ v2.ownBlock=some g) (hat:v'.ownBlock=v1.ownBlock∨v'.ownBlock=some wb.heap.size) {e size m base:Nat} {xs:List Value} (h2:wa.ownsRow base e size v2 m xs):∀g,v'.ownBlock=some g→¬ v2.ownBlock=some g:=fun g hg hg2=>by
 rcases hat with e | e
 ·exact ha g (e ▸ hg) hg2
 ·have h1:=(h2.lt g hg2).2
  have h3:=hwb.size
  rw [e] at hg
  injection hg with hg
  omega
theorem Rs.addN {c:Rl.Str} (h:Rs wa rb x N B C T L n) (hwb:Only (fun _=>False) wa wb) (hown:w'.ownsRow (rb+1) 9 1 v' (N.length+1) (strs N++[.string (bs c)])) (hg:wb.grownBy w' x.vN.ownBlock) (hat:v'.ownBlock=x.vN.ownBlock∨v'.ownBlock=some wb.heap.size):
  Rs w' rb { x with vN:=v'} (N++[c]) B C T L n∧Up rb wa w':=by
 have hO:=dM hwb hg
 refine⟨⟨by rw [List.length_append];unfold strs at hown ⊢;rw [List.map_append];exact hown,aM h.bt hO (bJ h.bt h.nm (by decide)),aM h.cl hO h.ap,aM h.tr hO (bJ h.tr h.nm (by decide)),aM h.ls hO (bJ h.ls h.nm (by decide)),fun g h1 h2=>h.apart hwb (fun g a b=>h.ap g b a) hat h.cl g h2 h1⟩,xA hO h.nm⟩
theorem Rs.aau {c:Int} (h:Rs wa rb x N B C T L n) (hwb:Only (fun _=>False) wa wb) (hown:w'.ownsRow (rb+1) 32 1 v' (B.length+1) (LH B++[.int .u32 c])) (hg:wb.grownBy w' x.vB.ownBlock):
  Rs w' rb { x with vB:=v'} N (B++[c]) C T L n∧Up rb wa w':=by
 have hO:=dM hwb hg
 exact⟨⟨aM h.nm hO (bJ h.nm h.bt (by decide)),by rw [List.length_append];unfold LH at hown ⊢;rw [List.map_append];exact hown,aM h.cl hO (bJ h.cl h.bt (by decide)),aM h.tr hO (bJ h.tr h.bt (by decide)),aM h.ls hO (bJ h.ls h.bt (by decide)),h.ap⟩,xA hO h.bt⟩
theorem Rs.NB {c:Rl.Str} (h:Rs wa rb x N B C T L n) (hwb:Only (fun _=>False) wa wb) (hown:w'.ownsRow (rb+1) 9 1 v' (C.length+1) (strs C++[.string (bs c)])) (hg:wb.grownBy w' x.vC.ownBlock) (hat:v'.ownBlock=x.vC.ownBlock∨v'.ownBlock=some wb.heap.size):
  Rs w' rb { x with vC:=v'} N B (C++[c]) T L n∧Up rb wa w':=by
 have hO:=dM hwb hg
 refine⟨⟨aM h.nm hO (fun g h1 h2=>h.ap g h2 h1),aM h.bt hO (bJ h.bt h.cl (by decide)),by rw [List.length_append];unfold strs at hown ⊢;rw [List.map_append];exact hown,aM h.tr hO (bJ h.tr h.cl (by decide)),aM h.ls hO (bJ h.ls h.cl (by decide)),h.apart hwb h.ap hat h.nm⟩,xA hO h.cl⟩
theorem Rs.Rc {c:Int} (h:Rs wa rb x N B C T L n) (hwb:Only (fun _=>False) wa wb) (hown:w'.ownsRow (rb+1) 3 1 v' (T.length+1) (ints T++[.int .i64 c])) (hg:wb.grownBy w' x.vT.ownBlock):
  Rs w' rb { x with vT:=v'} N B C (T++[c]) L n∧Up rb wa w':=by
 have hO:=dM hwb hg
 exact⟨⟨aM h.nm hO (bJ h.nm h.tr (by decide)),aM h.bt hO (bJ h.bt h.tr (by decide)),aM h.cl hO (bJ h.cl h.tr (by decide)),by rw [List.length_append];unfold ints at hown ⊢;rw [List.map_append];exact hown,aM h.ls hO (bJ h.ls h.tr (by decide)),h.ap⟩,xA hO h.tr⟩
theorem Rs.aav {ys:List Value} (h:Rs wa rb x N B C T L n) (hwb:Only (fun _=>False) wa wb) (hown:w'.ownsRow (rb+1) 119 7 v' (n+1) (L++ys)) (hg:wb.grownBy w' x.vL.ownBlock):
  Rs w' rb { x with vL:=v'} N B C T (L++ys) (n+1)∧Up rb wa w':=by
 have hO:=dM hwb hg
 exact⟨⟨aM h.nm hO (bJ h.nm h.ls (by decide)),aM h.bt hO (bJ h.bt h.ls (by decide)),aM h.cl hO (bJ h.cl h.ls (by decide)),aM h.tr hO (bJ h.tr h.ls (by decide)),hown,h.ap⟩,xA hO h.ls⟩
end
theorem one_cell (u:Value) (h:u.oneCell'=true):∀v∈[u],v.oneCell'=true:=by
 intro v hv
 simp at hv
 subst hv
 exact h
theorem Pp.grown {wa wb w':World} {rb:Nat} {S:ByteArray} {x:Px} {s:Ps} {v:Value} {e size n:Nat} {xs:List Value} (h:Pp wa rb S x s) (hwb:Only (fun _=>False) wa wb) (hg:wb.grownBy w' v.ownBlock) (hx:wa.ownsRow (rb+1) e size v n xs):Pp w' rb S x s:=h.only (dM hwb hg) (fun e=>by have:=Fe hx _ e;omega)
theorem Pp.aaw {w:World} {rb:Nat} {S:ByteArray} {x:Px} {s:Ps} (h:Pp w rb S x s) (v:Value):Pp (w.setCell ⟨rb,7,none⟩ v) rb S { x with vN:=v} s:=⟨aa h.1 _,h.2⟩
theorem Pp.oU {w:World} {rb:Nat} {S:ByteArray} {x:Px} {s:Ps} (h:Pp w rb S x s) (v:Value):Pp (w.setCell ⟨rb,8,none⟩ v) rb S { x with vB:=v} s:=⟨aa h.1 _,h.2⟩
theorem Pp.aax {w:World} {rb:Nat} {S:ByteArray} {x:Px} {s:Ps} (h:Pp w rb S x s) (v:Value):Pp (w.setCell ⟨rb,2,none⟩ v) rb S { x with vC:=v} s:=⟨aa h.1 _,h.2⟩
theorem Pp.TE {w:World} {rb:Nat} {S:ByteArray} {x:Px} {s:Ps} (h:Pp w rb S x s) (v:Value):Pp (w.setCell ⟨rb,5,none⟩ v) rb S { x with vT:=v} s:=⟨aa h.1 _,h.2⟩
theorem Pp.oV {w:World} {rb:Nat} {S:ByteArray} {x:Px} {s:Ps} (h:Pp w rb S x s) (v:Value):Pp (w.setCell ⟨rb,6,none⟩ v) rb S { x with vL:=v} s:=⟨aa h.1 _,h.2⟩
theorem Pp.aay {w:World} {rb:Nat} {S:ByteArray} {x:Px} {s:Ps} (h:Pp w rb S x s) (v:Int):Pp (w.setCell ⟨rb,3,none⟩ (.int .u32 v)) rb S { x with j:=v} s:=⟨aa h.1 _,h.2⟩
theorem Pp.aaz {w:World} {rb:Nat} {S:ByteArray} {x:Px} {s:Ps} (h:Pp w rb S x s) (v:Int):Pp (w.setCell ⟨rb,4,none⟩ (.int .u32 v)) rb S { x with a:=v} s:=⟨aa h.1 _,h.2⟩
theorem sj (rb:Nat) (S:ByteArray) (x:Px) (s:Ps) (N:List Rl.Str) (B:List Int) (C:List Rl.Str) (T:List Int) (L:List Value) (n:Nat) (c:Rl.Str) (b:Int) (w:World) (h:Pp w rb S x s) (hP:Rs w rb x N B C T L n) (hE1:N.length≤5000) (hE2:B.length≤5000):
  Calls Tryz.prog 44 #[.pointer (some ⟨rb,0,none⟩),.string (bs c),.int .u32 b] w fun e w'=>e=.returned (.tuple #[])∧∃vN vB,Pp w' rb S { x with vN:=vN,vB:=vB} s∧Rs w' rb { x with vN:=vN,vB:=vB} (N++[c]) (B++[b]) C T L n∧Up rb w w':=by
 obtain⟨i9,hi9,hz90,hz91,hz92⟩:=info_parts JG
 obtain⟨i34,aaA,Xc,Xd,Xe⟩:=info_parts TD
 have hlt:=h.lt
 obtain⟨aN,Xg,J7⟩:=ah hP.nm
 obtain⟨aB,Xh,hvB⟩:=ah hP.bt
 have HvN:=zH J7
 have W9:=zH hvB
 have HP:=zH hP
 have H:=zH h
 have d7:w.cell? ⟨rb,7,none⟩=some (.slice aN N.length Xg):=by rw [←J7];exact h.c7
 have f7:=h.fz 7
 clear J7 hvB hP h
 go_enter Tryz.func44,Tryz.ntmps44
 go_wp2_with (first |(at_builtin;refine wpList_append_own_at _ rfl _ _ 31 rfl (rb+1) 9 i9 (.string ⟨#[]⟩) 1 16 Tryz.underlying31 hi9 hz90 hz91 hz92 rfl (by decide) (.slice aN N.length Xg) _ _ rfl (by rw [←HvN.out];exact HP.out.nm.alloc _) ⟨w.heap.size,0,none⟩ 1 1 [.string (bs c)] rfl rfl (eP _ _ _) (one_cell _ rfl) (by unfold maxLen;omega) (by omega) (by simp;omega) ?_;intro V1_ w1 hown1 hg1 _ TF;obtain⟨g1,sM,rfl,_,_,_,_⟩:=ax hown1 (by omega);rw [←HvN.out] at hg1 TF;have hP1:=HP.out.addN ((Only.refl (fun _=>False) w).alloc _) hown1 hg1 TF;have az:=H.out.grown ((Only.refl (fun _=>False) w).alloc _) hg1 HP.out.nm;have e7:=az.c7;have g7:=az.fz 7;have e8:w1.cell? ⟨rb,8,none⟩=some (.slice aB B.length Xh):=(by rw [←W9.out];exact az.c8);have g8:=az.fz 8;have fJ:Hid _:=hP1;have HR1:=zH az;clear hP1 az hown1 hg1 TF;have hl1:=HR1.out.lt;rw [HvN.out] at e7) |(at_builtin;refine wpList_append_own_at _ rfl _ _ 65 rfl (rb+1) 32 i34 (.int .u32 0) 1 4 Tryz.underlying65 aaA Xc Xd Xe rfl (by decide) (.slice aB B.length Xh) _ _ rfl (by rw [←W9.out];exact (fJ.out.1.only (bX (Only.refl _ _) 7 (.slice (some ⟨g1,0,none⟩) (N.length+1) sM))).bt.alloc _) ⟨w1.heap.size,0,none⟩ 1 1 [.int .u32 b] rfl rfl (by have:=eP (w1.setCell ⟨rb,7,none⟩ (.slice (some ⟨g1,0,none⟩) (N.length+1) sM)) (.int .u32 b) 32;simp only [World.setCell,Array.size_modify] at this ⊢;exact this) (one_cell _ rfl) (by unfold maxLen;omega) (by omega) (by simp;omega) ?_;intro V2_ w2 hown2 hg2 _ aaB;obtain⟨g2,cap2,rfl,_,_,_,_⟩:=ax hown2 (by omega);rw [←W9.out] at hg2;have hP2:=(fJ.out.1.only (bX (Only.refl _ _) 7 (.slice (some ⟨g1,0,none⟩) (N.length+1) sM))).aau ((Only.refl (fun _=>False) _).alloc _) hown2 hg2;have hR2:=(HR1.out.aaw (.slice (some ⟨g1,0,none⟩) (N.length+1) sM)).grown ((Only.refl (fun _=>False) _).alloc _) hg2 (fJ.out.1.only (bX (Only.refl _ _) 7 (.slice (some ⟨g1,0,none⟩) (N.length+1) sM))).bt;have e8:=hR2.c8;have g8:=hR2.fz 8;have hl2:=hR2.lt;have iC:Hid _:=hP2;have HR2:Hid _:=hR2;clear hP2 hR2 hown2 hg2 aaB))
 go_end0
 exact⟨rfl,_,_,Pp.oU HR2.out _,iC.out.1.only (bX (Only.refl _ _) 8 _),fJ.out.2.trans ((up (bX (Only.refl _ _) 7 _)).trans (iC.out.2.trans (up (bX (Only.refl _ _) 8 _))))⟩
structure Al (w:World) (rb:Nat) (x:Px) (s:Ps) (N:List Rl.Str) (B:List Int) (C:List Rl.Str) (T:List Int) (L:List Value) (n:Nat):Prop where
 r:Rs w rb x N B C T L n
 c24:C.length≤24
 tl:T.length=C.length
 bl:B.length=N.length
 n24:n≤24
 nl:N.length≤s.i
 p:0≤s.pl∧s.pl≤200
 d:s.dp=0
theorem Al.go {w w':World} {rb:Nat} {x:Px} {s s':Ps} {N:List Rl.Str} {B:List Int} {C:List Rl.Str} {T:List Int} {L:List Value} {n:Nat} (h:Al w rb x s N B C T L n) (ho:Only (·=rb) w w') (hl:Le s s'):Al w' rb x s' N B C T L n:=⟨h.r.only ho,h.c24,h.tl,h.bl,h.n24,Nat.le_trans h.nl hl.1,by rw [hl.2.2.1];exact h.p,by rw [hl.2.2.2];exact h.d⟩
theorem Al.go2 {w w':World} {rb:Nat} {x:Px} {s s':Ps} {N:List Rl.Str} {B:List Int} {C:List Rl.Str} {T:List Int} {L:List Value} {n:Nat} (h:Al w rb x s N B C T L n) (ho:Only (·=rb) w w') (hl:oH s s') (hc:s'.c=0):Al w' rb x s' N B C T L n:=⟨h.r.only ho,h.c24,h.tl,h.bl,h.n24,Nat.le_trans h.nl hl.1,(hl.2.1 hc).2,(hl.2.1 hc).1.trans h.d⟩
theorem Al.dn {w:World} {rb:Nat} {x:Px} {s:Ps} {N:List Rl.Str} {B:List Int} {C:List Rl.Str} {T:List Int} {L:List Value} {n:Nat} (h:Al w rb x s N B C T L n) {S:ByteArray} (hi:s.i≤S.size) (hS:S.size≤4096):Dn w rb x N B:=⟨h.r.nm,h.r.bt,h.bl,by have:=h.nl;omega⟩
theorem Al.vc {w:World} {rb:Nat} {x:Px} {s:Ps} {N:List Rl.Str} {B:List Int} {C:List Rl.Str} {T:List Int} {L:List Value} {n:Nat} (h:Al w rb x s N B C T L n):∃a n cap,x.vC=.slice a n cap∧n≤24:=by
 obtain⟨a,c,e⟩:=ah h.r.cl
 exact⟨a,_,c,e,h.c24⟩
def LP (rb:Nat) (S:ByteArray) (s:Ps) (w:World) (V:Ps→Prop) (e:Ending) (w':World):Prop:=∃(x':Px) (s':Ps),e=.returned (.tuple #[])∧Pp w' rb S x' s'∧s.i≤s'.i∧Up rb w w'∧(s'.c=0→V s'∧∃N B C T L n,Al w' rb x' s' N B C T L n)
theorem Hl {ops:Array Oper} {o:Oper} {a:Act} {w:World} {K:Act→World→Prop} {Q:Exit→Act→World→Prop} {E:Prop} (hgd:o.guard=none) (s x:Operand)
  (ho:o.op=.call { callee:=.builtin .append,args:=#[s,x],argTypes:=#[33,33]})
  (base:Nat) (v:Value) (n:Nat) (xs:List Value) (hs:a.eval s=v) (hown:w.ownsRow base 119 7 v n xs)
  (ad:Addr) (ys:List Value) (hx:a.eval x=.slice (some ad) 1 1) (hl:ys.length=7) (hnews:∀j u,ys[j]?=some u→w.cell? (ad.add j)=some u) (h1:∀u∈ys,u.oneCell'=true) (hsz:n≤1000000) (hbase:base≤w.heap.size)
  (h:∀g cap w',w'.ownsRow base 119 7 (.slice (some ⟨g,0,none⟩) (n+1) cap) (n+1) (xs++ys)→w.grownBy w' v.ownBlock→K (a.put o.dst (.slice (some ⟨g,0,none⟩) (n+1) cap)) w'):
  if Region.wanted o (yielded ops a.tmps)=true then Oper.wp Tryz.prog o a w K Q else E:=by
 have hw:Region.wanted o (yielded ops a.tmps)=true:=by simp [Region.wanted,hgd]
 rw [if_pos hw]
 obtain⟨i4,g4,g40,g41,g42⟩:=info_parts Cq
 obtain⟨v',w',hr,h2,h3,h4,h5⟩:=run_append_own_at (P:=Tryz.prog) w base 33 o.type 119 i4 (.agg #[.int .u8 0,.int .u8 0,.int .u32 0,.slice none 0 0,.int .u8 0,.int .u32 0,.slice none 0 0]) 7 72 Tryz.underlying33 g4 g40 g41 g42 rfl (by decide) v n xs hown ad 1 1 ys (by omega) hnews h1 (by unfold maxLen;omega) (by omega) hbase
 obtain⟨g,cap,rfl,hg1,hg2,hg3,_⟩:=ax h2 (by omega)
 unfold Oper.wp execOp
 simp only [ho,resolve,invoke,builtin,Sem.run_bind,Sem.run_pure,Result.andThen_ok,List.map_toArray,List.map_cons,List.map_nil,hs,hx,hr]
 exact h g cap w' h2 h3
theorem Bg {wa wb w':World} {b:Nat} {o s k:Value} {v:Value} {base size n:Nat} {xs:List Value} (h:Xb wa b o s k) (hwb:Only (fun _=>False) wa wb) (hg:wb.grownBy w' v.ownBlock) (hx:wa.ownsRow base 119 size v n xs):Xb w' b o s k:=h.only (dM hwb hg) (fun e=>by
 obtain⟨_,⟨hv,_⟩ | ⟨g',cap',cur',hv,hb,hh',_⟩⟩:=hx
 ·rw [hv] at e;cases e
 ·rw [hv] at e
  injection e with e
  simp only at e
  subst e
  rw [show wa.heap[g']?=_ from h] at hh'
  injection hh' with hh'
  injection hh' with _ h2
  exact absurd h2 (by decide))
theorem kF (does at':Int) (rb:Nat) (S:ByteArray) (x:Px) (s:Ps) (N:List Rl.Str) (B:List Int) (C:List Rl.Str) (T:List Int) (L:List Value) (n:Nat) (w:World) (h:Pp w rb S x s) (hS:S.size≤4096) (hA:Al w rb x s N B C T L n):
  Calls Tryz.prog 48 #[.pointer (some ⟨rb,0,none⟩),.int .u8 does,.int .i64 at'] w (LP rb S s w fun _=>s.c=0):=by
 obtain⟨i0,hi,hz0,hz1,hz2⟩:=info_parts Cq
 have hlt:=h.lt
 obtain⟨aL,nS,Ev⟩:=ah hA.r.ls
 have JB:=zH Ev
 have c6:w.cell? ⟨rb,6,none⟩=some (.slice aL n nS):=by rw [←Ev];exact h.c6
 have Nt:=hA.n24
 have hd:=hA.d
 have H:Hid (Pp w rb S x s∧Al w rb x s N B C T L n):=⟨h,hA⟩
 have HE:Hid (∀W s',Pp W rb S x s'→Only (·=rb) w W→oH s s'→0≤s'.dp∧s'.dp≤16→Calls Tryz.prog 63 #[.pointer (some ⟨rb,0,none⟩)] W (EP rb S x s' W fun _=>True)):=fun W s' hp ho hl hd'=>nK 16 rb S x s' N B W hp hS ⟨(hA.dn h.2 hS).only ho,hA.vc,fun e=>(hl.2.1 e).2,hd'⟩ (fun e=>by omega)
 clear h hA Ev
 go_enter Tryz.func48,Tryz.ntmps48
 go_upto_if 14 with fail
 go_cut [] from 8 to 46 (fun wc=>∃s1,Pp wc rb S x s1∧Le s s1∧Only (·=rb) w wc∧(s1.c=0→n < 24))
 case first=>
  by_cases vz:n=24
  ·have q:((n:Int)==24)=true:=by simp;omega
   go_wp2_with fail
   refine Calls.mono (dH rb S x s _ _ _ H.out.1 (by decide)) ?_
   rintro e w1 ⟨_,s1,rfl,az,hL1,⟨rfl,hc1,_⟩,ho1⟩
   go_wp2_with fail
   go_meet
   case rel=>exact⟨s1,az,hL1,ho1,fun e=>absurd e hc1⟩
  ·have q:((n:Int)==24)=false:=by simp;omega
   go_wp2_with fail
   go_meet
   case rel=>exact⟨s,H.out.1,Le.refl _,Only.refl _ _,fun _=>by omega⟩
 case rest=>
  obtain⟨s1,az,hL1,ho1,hn1⟩:=hcut
  have H1:Hid (Pp wc rb S x s1∧oH s s1∧Only (·=rb) w wc∧(s1.c=0→n < 24)∧s1.dp=0):=⟨az,hL1.Qm (fun _=>H.out.2.p),ho1,hn1,hL1.2.2.2.trans H.out.2.d⟩
  clear az hL1 ho1 hn1
  go_wp2_with fail
  refine Calls.mono (HE.out _ s1 H1.out.1 H1.out.2.2.1 H1.out.2.1 (by rw [H1.out.2.2.2.2];omega)) ?_
  rintro e w2 ⟨o,st,a,k,c,s2,rfl,hR2,hL2,-,ho2⟩
  have H2:Hid (Pp (w2.alloc (.cells #[.int .u8 o,.int .u32 st,.slice a k c] 117)) rb S x s2∧oH s1 s2∧Only (·=rb) w (w2.alloc (.cells #[.int .u8 o,.int .u32 st,.slice a k c] 117))∧Xb (w2.alloc (.cells #[.int .u8 o,.int .u32 st,.slice a k c] 117)) w2.heap.size (.int .u8 o) (.int .u32 st) (.slice a k c)∧w.heap.size≤w2.heap.size):=⟨hR2.alloc _,hL2,(H1.out.2.2.1.trans ho2).alloc _,Xb.new w2 _ _ _,(H1.out.2.2.1.trans ho2).size⟩
  clear hR2 hL2 ho2
  go_wp2_with fail
  refine Calls.mono (aU 47 (by decide) rb S x s2 _ H2.out.1 hS) ?_
  rintro e w3 ⟨_,s3,rfl,cz,hL3,rfl,ho3⟩
  have hdp:0≤s3.dp∧s3.dp≤16:=by have h1:=H2.out.2.1.2.2.1;have h2:=hL3.2.2.2;have h3:=H1.out.2.2.2.2;omega
  have abK:=H2.out.2.2.2.2
  have H3:Hid (Pp w3 rb S x s3∧oH s1 s3∧Only (·=rb) w w3∧Xb w3 w2.heap.size (.int .u8 o) (.int .u32 st) (.slice a k c)):=⟨cz,H2.out.2.1.trans (hL3.Qm (fun e=>(H2.out.2.1.2.1 e).2)),H2.out.2.2.1.trans ho3,H2.out.2.2.2.1.only ho3 (by omega)⟩
  clear cz hL3 ho3
  go_wp2_with fail
  refine Calls.mono (HE.out _ s3 H3.out.1 H3.out.2.2.1 (H1.out.2.1.trans H3.out.2.1) hdp) ?_
  rintro e w4 ⟨o',st',a',k',c',s4,rfl,fC,hL4,-,bI⟩
  have H4:Hid (Pp (w4.alloc (.cells #[.int .u8 o',.int .u32 st',.slice a' k' c'] 117)) rb S x s4∧oH s1 s4∧Only (·=rb) w (w4.alloc (.cells #[.int .u8 o',.int .u32 st',.slice a' k' c'] 117))∧Xb (w4.alloc (.cells #[.int .u8 o',.int .u32 st',.slice a' k' c'] 117)) w2.heap.size (.int .u8 o) (.int .u32 st) (.slice a k c)∧Xb (w4.alloc (.cells #[.int .u8 o',.int .u32 st',.slice a' k' c'] 117)) w4.heap.size (.int .u8 o') (.int .u32 st') (.slice a' k' c')∧w.heap.size≤w4.heap.size):=⟨fC.alloc _,H3.out.2.1.trans hL4,(H3.out.2.2.1.trans bI).alloc _,(H3.out.2.2.2.only bI (by omega)).alloc _,Xb.new w4 _ _ _,(H3.out.2.2.1.trans bI).size⟩
  clear fC hL4 bI
  go_wp2_with fail
  refine Calls.mono (aU 59 (by decide) rb S x s4 _ H4.out.1 hS) ?_
  rintro e w5 ⟨_,s5,rfl,h_,hL5,rfl,df⟩
  have abL:=H4.out.2.2.2.2.2
  have d11:=h_.c11
  have H5:Hid (Pp w5 rb S x s5∧oH s1 s5∧Only (·=rb) w w5∧Xb w5 w2.heap.size (.int .u8 o) (.int .u32 st) (.slice a k c)∧Xb w5 w4.heap.size (.int .u8 o') (.int .u32 st') (.slice a' k' c')):=⟨h_,H4.out.2.1.trans (hL5.Qm (fun e=>(H4.out.2.1.2.1 e).2)),H4.out.2.2.1.trans df,H4.out.2.2.2.1.only df (by omega),H4.out.2.2.2.2.1.only df (by omega)⟩
  clear h_ hL5 df
  by_cases q5:s5.c=0
  ·have z5:(s5.c==0)=true:=by simpa using q5
   have HQ:Hid (s5.c=0∧s1.c=0∧n < 24):=by
    have h1:s1.c=0:=Decidable.byContradiction fun e=>(H5.out.2.1.2.2.2 e).2 q5
    exact⟨q5,h1,H1.out.2.2.2.1 h1⟩
   clear q5
   obtain⟨ea,hea⟩:∃z,z=w2.heap.size:=⟨_,rfl⟩
   obtain⟨eb,TA⟩:∃z,z=w4.heap.size:=⟨_,rfl⟩
   obtain⟨RB,Xi⟩:∃z,z=Obj.cells #[.int .u8 does,.int .u8 o,.int .u32 st,.slice a k c,.int .u8 o',.int .u32 st',.slice a' k' c'] 119:=⟨_,rfl⟩
   have FY:Hid (Al w5 rb x s5 N B C T L n):=H.out.2.go2 H5.out.2.2.1 (H1.out.2.1.trans H5.out.2.1) HQ.out.1
   have hown:w5.drew.ownsRow (rb+1) 119 7 (.slice aL n nS) n L:=by rw [←JB.out];exact FY.out.r.ls
   have jr:=zH hown
   have XA:Xb w5.drew ea (.int .u8 o) (.int .u32 st) (.slice a k c):=by rw [hea];exact H5.out.2.2.2.1
   have XB:Xb w5.drew eb (.int .u8 o') (.int .u32 st') (.slice a' k' c'):=by rw [TA];exact H5.out.2.2.2.2
   have HX:Hid (Xb w5.drew ea (.int .u8 o) (.int .u32 st) (.slice a k c)∧Xb w5.drew eb (.int .u8 o') (.int .u32 st') (.slice a' k' c')):=⟨XA,XB⟩
   have Il:Hid _:=And.intro (XA.alloc (.cells #[.int .u8 does,.int .u8 o,.int .u32 st,.slice a k c,.int .u8 o',.int .u32 st',.slice a' k' c'] 119)) (XB.alloc (.cells #[.int .u8 does,.int .u8 o,.int .u32 st,.slice a k c,.int .u8 o',.int .u32 st',.slice a' k' c'] 119))
   have BL:Pp w5.drew rb S x s5:=H5.out.1
   have d6:w5.drew.cell? ⟨rb,6,none⟩=some (.slice aL n nS):=by rw [←JB.out];exact BL.c6
   have d6':(w5.drew.alloc (.cells #[.int .u8 does,.int .u8 o,.int .u32 st,.slice a k c,.int .u8 o',.int .u32 st',.slice a' k' c'] 119)).cell? ⟨rb,6,none⟩=some (.slice aL n nS):=by rw [←JB.out];exact (BL.alloc _).c6
   have d6a:w5.cell? ⟨rb,6,none⟩=some (.slice aL n nS):=d6
   have d6b:(w5.alloc (.cells #[.int .u8 does,.int .u8 o,.int .u32 st,.slice a k c,.int .u8 o',.int .u32 st',.slice a' k' c'] 119)).cell? ⟨rb,6,none⟩=some (.slice aL n nS):=d6'
   have P5:=zH BL
   have hla:=XA.lt
   have hlb:=XB.lt
   have hlr:=BL.lt
   have hnb:=HQ.out.2.2
   have aaC:rb < w5.heap.size:=hlr
   have hra:ea≠rb:=by omega
   have aaD:eb≠rb:=by omega
   clear hown XA XB BL
   go_wp2_with fail
   rw [←hea,←TA]
   clear hea TA Xi
   refine wp_region_held_drew (S:=fun w'=>Xb w' ea (.int .u8 o) (.int .u32 st) (.slice a k c)∧Xb w' eb (.int .u8 o') (.int .u32 st') (.slice a' k' c')) (by kernel_rfl) HX.out (fun hHeld=>?_)
   refine bQ (i:=0) (v:=Value.pointer (some ⟨rb,0,none⟩)) rfl ?_
   simp only [Act.put,zA,zB,zC]
   refine bQ (i:=1) (v:=Value.pointer (some ⟨rb,0,none⟩)) rfl ?_
   simp only [Act.put,zA,zB,zC]
   refine bQ (i:=2) (v:=Value.pointer (some ⟨rb,0,none⟩)) rfl ?_
   simp only [Act.put,zA,zB,zC]
   refine bQ (i:=3) (v:=Value.pointer (some ⟨rb,2,none⟩)) rfl ?_
   simp only [Act.put,zA,zB,zC]
   refine bQ (i:=4) (v:=Value.pointer (some ⟨rb,6,none⟩)) rfl ?_
   simp only [Act.put,zA,zB,zC]
   refine bQ (i:=6) (v:=Value.int .u8 does) rfl ?_
   simp only [Act.put,zA,zB,zC]
   refine tk (i:=7) (v:=Value.agg #[.int .u8 o,.int .u32 st,.slice a k c]) rfl (Or.inl ⟨by rfl,fun w hSw=>by obtain⟨h1,h2⟩:=hSw;have q0:=h1.c0;have q1:=h1.c1;have q2:=h1.c2;have q3:=h2.c0;have q4:=h2.c1;have q5:=h2.c2;clear h1 h2;go_simp⟩) ?_
   simp only [Act.put,zA,zB,zC]
   refine tk (i:=8) (v:=Value.agg #[.int .u8 o',.int .u32 st',.slice a' k' c']) rfl (Or.inl ⟨by rfl,fun w hSw=>by obtain⟨h1,h2⟩:=hSw;have q0:=h1.c0;have q1:=h1.c1;have q2:=h1.c2;have q3:=h2.c0;have q4:=h2.c1;have q5:=h2.c2;clear h1 h2;go_simp⟩) ?_
   simp only [Act.put,zA,zB,zC]
   refine bQ (i:=9) (v:=Value.agg #[.int .u8 does,.int .u8 o,.int .u32 st,.slice a k c,.int .u8 o',.int .u32 st',.slice a' k' c']) rfl ?_
   simp only [Act.put,zA,zB,zC]
   refine wpAnyH_ready (rs:=[5,10]) (by kernel_rfl) (by simp) ?_
   refine AllReadyH.cons rfl (fun K hK=>?_) (AllReadyH.cons rfl (fun K hK=>?_) AllReadyH.nil)
   all_goals
    rw [if_pos (by rfl)]
    go_simp
   refine hK.out _ _ HX.out (fun iK=>wpAnyH_ready (rs:=[10]) (by kernel_rfl) (by simp) ?_)
   rotate_left
   refine hK.out _ _ Il.out (fun iK=>wpAnyH_ready (rs:=[5]) (by kernel_rfl) (by simp) ?_)
   rotate_left
   all_goals
    clear hK
    refine AllReadyH.cons rfl (fun K hK=>?_) AllReadyH.nil
    rw [if_pos (by rfl)]
    go_simp
    refine hK.out _ _ Il.out (fun nQ=>?_)
    clear hK
    refine wpAnyH_ready (rs:=[11]) (by kernel_rfl) (by simp) ?_
    refine AllReadyH.cons rfl (fun K hK=>?_) AllReadyH.nil
    refine Hl rfl _ _ rfl (rb+1) (.slice aL n nS) n L rfl (jr.out.alloc _) ⟨w5.drew.heap.size,0,none⟩ [.int .u8 does,.int .u8 o,.int .u32 st,.slice a k c,.int .u8 o',.int .u32 st',.slice a' k' c'] rfl rfl (wS _ _ _ _ _ _ _ _) (uq _ _ _ _ _ _ _ _ _ _ _) (by omega) (by simp;omega) ?_
    intro gv jU w6 hown6 kE
    have hA6:=FY.out.r.only (Only.refl _ _).drew |>.aav ((Only.refl _ _).alloc _) hown6 (by rw [JB.out];exact kE)
    have Jr:=P5.out.grown ((Only.refl _ _).alloc _) kE jr.out
    have Xj:=Bg HX.out.1 ((Only.refl _ _).alloc _) kE jr.out
    have Xk:=Bg HX.out.2 ((Only.refl _ _).alloc _) kE jr.out
    have d6:=Jr.c6
    have f6:=Jr.fz 6
    have lr6:=Jr.lt
    refine hK.out _ _ ⟨Xj,Xk⟩ (fun gI=>?_)
    clear hK
    try simp only [Act.put,zA,zB,zC]
    refine bQ (i:=12) (v:=Value.pointer (some ⟨rb,0,none⟩)) rfl ?_
    simp only [Act.put,zA,zB,zC]
    refine bQ (i:=13) (v:=Value.pointer (some ⟨rb,2,none⟩)) rfl ?_
    simp only [Act.put,zA,zB,zC]
    refine bQ (i:=14) (v:=Value.pointer (some ⟨rb,6,none⟩)) rfl ?_
    simp only [Act.put,zA,zB,zC]
    refine wpAnyH_ready (rs:=[15]) (by kernel_rfl) (by simp) ?_
    refine AllReadyH.cons rfl (fun K hK=>?_) AllReadyH.nil
    rw [if_pos (by rfl)]
    go_simp
    refine hK.out _ _ ⟨Xj.only (P:=(·=rb)) (bX (Only.refl _ _) 6 _) hra,Xk.only (P:=(·=rb)) (bX (Only.refl _ _) 6 _) aaD⟩ (fun gJ=>?_)
    clear hK
    refine wpAnyH_done (by kernel_rfl) ?_ _
    clear gI gJ
    go_wp2_with fail
    go_end0
    exact⟨_,s5,rfl,Pp.oV Jr _,Nat.le_trans H1.out.2.1.1 H5.out.2.1.1,(up (H5.out.2.2.1.drew)).trans (hA6.2.trans (up (bX (Only.refl _ _) 6 _))),fun _=>⟨Decidable.byContradiction fun e=>(H1.out.2.1.2.2.2 e).2 HQ.out.2.1,N,B,C,T,_,n+1,⟨Rs.only hA6.1 (bX (Only.refl _ _) 6 _),FY.out.c24,FY.out.tl,FY.out.bl,by omega,FY.out.nl,FY.out.p,FY.out.d⟩⟩⟩
  ·have z5:(s5.c==0)=false:=by simpa using q5
   have HQ:=zH q5
   clear q5
   go_wp2_with fail
   go_end0
   exact⟨x,s5,rfl,H5.out.1,Nat.le_trans H1.out.2.1.1 H5.out.2.1.1,up H5.out.2.2.1,fun e=>absurd e HQ.out⟩
end Go.Proofs.YtdlabakleldgaaaGreatDoor.W
