/- Tk Tk2 -/
import Derived.Test.YtdlabakleldgaaaGreatDoorZ00
import Derived.Test.YtdlabakleldgaaaGreatDoorZ03
set_option linter.unusedVariables false
set_option linter.unusedSimpArgs false
set_option maxRecDepth 100000
set_option maxHeartbeats 8000000
namespace Go.Proofs.YtdlabakleldgaaaGreatDoor
open Go.RowKit Go.Maps
theorem I1 (x:Au.Nd):tV (dO x) 1 x.first:=by
 intro k hk
 rcases (show k=0∨k=1∨k=2∨k=3 by omega) with rfl | rfl | rfl | rfl <;> rfl
theorem xS (x:Au.Nd):tV (dO x) 5 x.last:=by
 intro k hk
 rcases (show k=0∨k=1∨k=2∨k=3 by omega) with rfl | rfl | rfl | rfl <;> rfl
def ig (w:World) (g:Nat) (x:Au.Nd):Prop:=w.heap[g]?=some (.cells (dO x) 143 (0,0))
theorem ig.lt {w:World} {g:Nat} {x:Au.Nd} (h:ig w g x):g < w.heap.size:=(Array.getElem?_eq_some_iff.1 h).1
theorem ig.only {w w':World} {g:Nat} {x:Au.Nd} {P:Nat→Prop} (h:ig w g x) (ho:Only P w w') (hn:¬ P g):ig w' g x:=(ho.block g h.lt hn).trans h
theorem ig.f {w:World} {g:Nat} {x:Au.Nd} (h:ig w g x) (k:Nat) (hk:k < 4):w.cell? ⟨g,1+k,none⟩=some (.int .u64 (wd x.first k:Int)):=(ae h).trans (I1 x k hk)
theorem ig.l {w:World} {g:Nat} {x:Au.Nd} (h:ig w g x) (k:Nat) (hk:k < 4):w.cell? ⟨g,5+k,none⟩=some (.int .u64 (wd x.last k:Int)):=(ae h).trans (xS x k hk)
def Fb (w:World) (fb fo:Nat) (t:TypeId) (cs:Array Value) (op:Int) (a:Option Addr) (m c:Nat) (x:Au.Nd):Prop:=w.heap[fb]?=some (.cells cs t (0,0))∧gG cs fo op a m c x
theorem Fb.lt {w:World} {fb fo:Nat} {t:TypeId} {cs:Array Value} {op:Int} {a:Option Addr} {m c:Nat} {x:Au.Nd} (h:Fb w fb fo t cs op a m c x):fb < w.heap.size:=(Array.getElem?_eq_some_iff.1 h.1).1
theorem Fb.only {w w':World} {fb fo:Nat} {t:TypeId} {cs:Array Value} {op:Int} {a:Option Addr} {m c:Nat} {x:Au.Nd} {P:Nat→Prop} (h:Fb w fb fo t cs op a m c x) (ho:Only P w w') (hn:¬ P fb):Fb w' fb fo t cs op a m c x:=⟨(ho.block fb h.lt hn).trans h.1,h.2⟩
theorem Fb.c {w:World} {fb fo:Nat} {t:TypeId} {cs:Array Value} {op:Int} {a:Option Addr} {m c:Nat} {x:Au.Nd} (h:Fb w fb fo t cs op a m c x) (k:Nat) (hk:k < 11):w.cell? ⟨fb,fo+k,none⟩=(iR op a m c x)[k]?:=(ae h.1).trans (h.2 k hk)
theorem Fb.fz {w:World} {fb fo:Nat} {t:TypeId} {cs:Array Value} {op:Int} {a:Option Addr} {m c:Nat} {x:Au.Nd} (h:Fb w fb fo t cs op a m c x) (k:Nat):w.frozen? ⟨fb,k,none⟩=false:=ak h.1 k
theorem I4 (g fb fo:Nat) (t:TypeId) (cs:Array Value) (op:Int) (a:Option Addr) (m c:Nat) (y x:Au.Nd) (w:World) (hF:Fb w fb fo t cs op a m c y) (hop:op≠2):
  Calls Tryz.prog 103 #[.pointer (some ⟨g,0,none⟩),.pointer (some ⟨fb,fo,none⟩),qJ x] w fun e w'=>e=.returned (.tuple #[])∧(∃cs',Fb w' fb fo t cs' op a m c (Au.sD y x)∧Same cs cs' fo)∧Only (·=fb) w w':=by
 obtain⟨xe,xf,xl⟩:=x
 obtain⟨ye,yf,yl⟩:=y
 have hlt:=hF.lt
 have HF:=zH hF
 have c0:w.cell? ⟨fb,fo,none⟩=some (.int .u8 op):=hF.c 0 (by decide)
 have c2:w.cell? ⟨fb,fo+2,none⟩=some (.bool ye):=hF.c 2 (by decide)
 have f2:=hF.fz (fo+2)
 have q2:(op !=2)=true:=by simpa using hop
 clear hF hop
 have P0:Hid (ig (w.alloc (.cells (dO ⟨xe,xf,xl⟩) 143)) w.heap.size ⟨xe,xf,xl⟩):=heap_alloc_new _ _
 have O0:Hid (Only (fun _=>False) w (w.alloc (.cells (dO ⟨xe,xf,xl⟩) 143))):=(Only.refl _ _).alloc _
 unfold qJ dO
 cases ye
 ·have F0:Hid (Fb ((w.setCell ⟨fb,fo+2,none⟩ (.bool xe)).alloc (.cells (dO ⟨xe,xf,xl⟩) 143)) fb fo t (cs.setIfInBounds (fo+2) (.bool xe)) op a m c ⟨xe,yf,yl⟩):=⟨(Below.heap_alloc _ _ _ (by simp [World.setCell];omega)).trans (aa HF.out.1 _),(HF.out.2.oU xe).1⟩
  have P1:Hid (ig ((w.setCell ⟨fb,fo+2,none⟩ (.bool xe)).alloc (.cells (dO ⟨xe,xf,xl⟩) 143)) w.heap.size ⟨xe,xf,xl⟩):=(by have:=heap_alloc_new (w.setCell ⟨fb,fo+2,none⟩ (.bool xe)) (.cells (dO ⟨xe,xf,xl⟩) 143);rwa [show (w.setCell ⟨fb,fo+2,none⟩ (.bool xe)).heap.size=w.heap.size by simp [World.setCell]] at this)
  have O1:Hid (Only (·=fb) w ((w.setCell ⟨fb,fo+2,none⟩ (.bool xe)).alloc (.cells (dO ⟨xe,xf,xl⟩) 143))):=((Only.refl (·=fb) _).setCell (p:=⟨fb,fo+2,none⟩) rfl _).alloc _
  unfold dO at F0 P1 O1
  go_enter Tryz.func103,Tryz.ntmps103
  go_wp2_with fail
  generalize (w.setCell ⟨fb,fo+2,none⟩ (.bool xe)).alloc (.cells #[.bool xe,.int .u64 (wd xf 0:Int),.int .u64 (wd xf 1:Int),.int .u64 (wd xf 2:Int),.int .u64 (wd xf 3:Int),.int .u64 (wd xl 0:Int),.int .u64 (wd xl 1:Int),.int .u64 (wd xl 2:Int),.int .u64 (wd xl 3:Int)] 143)=W at F0 P1 O1 ⊢
  clear c0 c2 f2 O0 P0
  have k1:W.cell? ⟨w.heap.size,1,none⟩=some (.int .u64 (wd xf 0:Int)):=P1.out.f 0 (by decide)
  have k2:W.cell? ⟨w.heap.size,2,none⟩=some (.int .u64 (wd xf 1:Int)):=P1.out.f 1 (by decide)
  have k3:W.cell? ⟨w.heap.size,3,none⟩=some (.int .u64 (wd xf 2:Int)):=P1.out.f 2 (by decide)
  have k4:W.cell? ⟨w.heap.size,4,none⟩=some (.int .u64 (wd xf 3:Int)):=P1.out.f 3 (by decide)
  go_region_with (go_at_call 79;refine (dz fb (fo+3) yf xf _ t _ (F0.out.only ((Only.refl (fun _=>False) W).drew) (fun h=>h)).1 F0.out.2.first).mono ?_;rintro e w2 ⟨rfl,hp2,ho2⟩)
  have F2:Hid (Fb w2 fb fo t (mG (cs.setIfInBounds (fo+2) (.bool xe)) (fo+3) (yf ||| xf) 4) op a m c ⟨xe,yf ||| xf,yl⟩):=⟨hp2,(F0.out.2.zy _).1⟩
  have O2:Hid (Only (·=fb) w w2):=O1.out.drew.trans ho2
  have P2:Hid (ig w2 w.heap.size ⟨xe,xf,xl⟩):=(P1.out.only ((Only.refl (fun _=>False) W).drew) (fun h=>h)).only ho2 (by omega)
  clear hp2 ho2 k1 k2 k3 k4
  have k1:w2.cell? ⟨w.heap.size,5,none⟩=some (.int .u64 (wd xl 0:Int)):=P2.out.l 0 (by decide)
  have k2:w2.cell? ⟨w.heap.size,6,none⟩=some (.int .u64 (wd xl 1:Int)):=P2.out.l 1 (by decide)
  have k3:w2.cell? ⟨w.heap.size,7,none⟩=some (.int .u64 (wd xl 2:Int)):=P2.out.l 2 (by decide)
  have k4:w2.cell? ⟨w.heap.size,8,none⟩=some (.int .u64 (wd xl 3:Int)):=P2.out.l 3 (by decide)
  go_wp2_with fail
  go_region_with (go_at_call 79;refine (dz fb (fo+7) yl xl _ t _ (F2.out.only ((Only.refl (fun _=>False) w2).drew) (fun h=>h)).1 F2.out.2.last).mono ?_;rintro e w3 ⟨rfl,hp3,ho3⟩)
  go_wp2_with fail
  refine bodyPost_ret (results_none rfl _ _ _) rfl ?_
  exact⟨rfl,⟨_,⟨hp3,(F2.out.2.oV _).1⟩,((HF.out.2.oU xe).2.trans (F0.out.2.zy _).2).trans (F2.out.2.oV _).2⟩,O2.out.drew.trans ho3⟩
 ·have F0:Hid (Fb ((w.setCell ⟨fb,fo+2,none⟩ (.bool true)).alloc (.cells (dO ⟨xe,xf,xl⟩) 143)) fb fo t (cs.setIfInBounds (fo+2) (.bool true)) op a m c ⟨true,yf,yl⟩):=⟨(Below.heap_alloc _ _ _ (by simp [World.setCell];omega)).trans (aa HF.out.1 _),(HF.out.2.oU true).1⟩
  have P1:Hid (ig ((w.setCell ⟨fb,fo+2,none⟩ (.bool true)).alloc (.cells (dO ⟨xe,xf,xl⟩) 143)) w.heap.size ⟨xe,xf,xl⟩):=(by have:=heap_alloc_new (w.setCell ⟨fb,fo+2,none⟩ (.bool true)) (.cells (dO ⟨xe,xf,xl⟩) 143);rwa [show (w.setCell ⟨fb,fo+2,none⟩ (.bool true)).heap.size=w.heap.size by simp [World.setCell]] at this)
  have O1:Hid (Only (·=fb) w ((w.setCell ⟨fb,fo+2,none⟩ (.bool true)).alloc (.cells (dO ⟨xe,xf,xl⟩) 143))):=((Only.refl (·=fb) _).setCell (p:=⟨fb,fo+2,none⟩) rfl _).alloc _
  unfold dO at F0 P1 O1
  go_enter Tryz.func103,Tryz.ntmps103
  go_wp2_with fail
  generalize (w.setCell ⟨fb,fo+2,none⟩ (.bool true)).alloc (.cells #[.bool xe,.int .u64 (wd xf 0:Int),.int .u64 (wd xf 1:Int),.int .u64 (wd xf 2:Int),.int .u64 (wd xf 3:Int),.int .u64 (wd xl 0:Int),.int .u64 (wd xl 1:Int),.int .u64 (wd xl 2:Int),.int .u64 (wd xl 3:Int)] 143)=W at F0 P1 O1 ⊢
  clear c0 c2 f2 O0 P0
  have k1:W.cell? ⟨w.heap.size,1,none⟩=some (.int .u64 (wd xf 0:Int)):=P1.out.f 0 (by decide)
  have k2:W.cell? ⟨w.heap.size,2,none⟩=some (.int .u64 (wd xf 1:Int)):=P1.out.f 1 (by decide)
  have k3:W.cell? ⟨w.heap.size,3,none⟩=some (.int .u64 (wd xf 2:Int)):=P1.out.f 2 (by decide)
  have k4:W.cell? ⟨w.heap.size,4,none⟩=some (.int .u64 (wd xf 3:Int)):=P1.out.f 3 (by decide)
  go_region_with (go_at_call 79;refine (dz fb (fo+3) yf xf _ t _ (F0.out.only ((Only.refl (fun _=>False) W).drew) (fun h=>h)).1 F0.out.2.first).mono ?_;rintro e w2 ⟨rfl,hp2,ho2⟩)
  have F2:Hid (Fb w2 fb fo t (mG (cs.setIfInBounds (fo+2) (.bool true)) (fo+3) (yf ||| xf) 4) op a m c ⟨true,yf ||| xf,yl⟩):=⟨hp2,(F0.out.2.zy _).1⟩
  have O2:Hid (Only (·=fb) w w2):=O1.out.drew.trans ho2
  have P2:Hid (ig w2 w.heap.size ⟨xe,xf,xl⟩):=(P1.out.only ((Only.refl (fun _=>False) W).drew) (fun h=>h)).only ho2 (by omega)
  clear hp2 ho2 k1 k2 k3 k4
  have k1:w2.cell? ⟨w.heap.size,5,none⟩=some (.int .u64 (wd xl 0:Int)):=P2.out.l 0 (by decide)
  have k2:w2.cell? ⟨w.heap.size,6,none⟩=some (.int .u64 (wd xl 1:Int)):=P2.out.l 1 (by decide)
  have k3:w2.cell? ⟨w.heap.size,7,none⟩=some (.int .u64 (wd xl 2:Int)):=P2.out.l 2 (by decide)
  have k4:w2.cell? ⟨w.heap.size,8,none⟩=some (.int .u64 (wd xl 3:Int)):=P2.out.l 3 (by decide)
  go_wp2_with fail
  go_region_with (go_at_call 79;refine (dz fb (fo+7) yl xl _ t _ (F2.out.only ((Only.refl (fun _=>False) w2).drew) (fun h=>h)).1 F2.out.2.last).mono ?_;rintro e w3 ⟨rfl,hp3,ho3⟩)
  go_wp2_with fail
  refine bodyPost_ret (results_none rfl _ _ _) rfl ?_
  exact⟨rfl,⟨_,⟨hp3,(F2.out.2.oV _).1⟩,((HF.out.2.oU true).2.trans (F0.out.2.zy _).2).trans (F2.out.2.oV _).2⟩,O2.out.drew.trans ho3⟩
theorem Ee (x:Au.Nd) (S:Nat):mG (dO x) 5 S 4=dO ⟨x.none,x.first,S⟩:=by simp [mG,dO]
theorem I5 (cs:Array Value) (o S:Nat):jm (sC S).toList cs o=mG cs o S 4:=rfl
theorem Fb.l {w:World} {fb fo:Nat} {t:TypeId} {cs:Array Value} {op:Int} {a:Option Addr} {m c:Nat} {x:Au.Nd} (h:Fb w fb fo t cs op a m c x):w.cell? ⟨fb,fo+7,none⟩=some (.int .u64 (wd x.last 0:Int))∧w.cell? ⟨fb,fo+8,none⟩=some (.int .u64 (wd x.last 1:Int))∧w.cell? ⟨fb,fo+9,none⟩=some (.int .u64 (wd x.last 2:Int))∧w.cell? ⟨fb,fo+10,none⟩=some (.int .u64 (wd x.last 3:Int)):=⟨h.c 7 (by decide),h.c 8 (by decide),h.c 9 (by decide),h.c 10 (by decide)⟩
theorem zz (g cl n:Nat) (b nx:Nat→Nat) (fs:Nat) (vL:Value) (em:Nat) (fb fo:Nat) (t:TypeId) (cs:Array Value) (a:Option Addr) (m c:Nat) (xf xl yf yl:Nat) (w:World) (hP:dN w g cl n b nx fs vL em) (hn:n≤200) (BH:xf < 2 ^ 256) (hF:Fb w fb fo t cs 2 a m c ⟨false,yf,yl⟩) (hgf:fb≠g):
  Calls Tryz.prog 103 #[.pointer (some ⟨g,0,none⟩),.pointer (some ⟨fb,fo,none⟩),qJ ⟨false,xf,xl⟩] w fun e w'=>e=.returned (.tuple #[])∧(∃cs',Fb w' fb fo t cs' 2 a m c ⟨false,yf,xl⟩∧Same cs cs' fo)∧dN w' g cl n b (qA nx yl xf n) fs vL em∧Only (fun h=>h=fb∨h=g) w w':=by
 have hlt:=hF.lt
 have QQ:=hP.lt
 have HF:Hid (Fb w fb fo t cs 2 a m c ⟨false,yf,yl⟩):=hF
 have HP:Hid (dN w g cl n b nx fs vL em):=hP
 have HX:Hid (xf < 2 ^ 256):=BH
 have c0:w.cell? ⟨fb,fo,none⟩=some (.int .u8 2):=hF.c 0 (by decide)
 obtain⟨l0,l1,l2,l3⟩:=hF.l
 simp only at l0 l1 l2 l3
 clear hF hP BH
 have P0:Hid (ig (w.alloc (.cells (dO ⟨false,xf,xl⟩) 143)) w.heap.size ⟨false,xf,xl⟩):=heap_alloc_new _ _
 have O0:Hid (Only (fun _=>False) w (w.alloc (.cells (dO ⟨false,xf,xl⟩) 143))):=(Only.refl _ _).alloc _
 unfold qJ
 unfold dO at P0 O0 ⊢
 go_enter Tryz.func103,Tryz.ntmps103
 go_wp2_with fail
 go_region_with (go_at_call 124;refine (iX g cl n b nx fs vL em yl xf _ (HP.out.only O0.out.drew (fun h=>h)) hn HX.out).mono ?_;rintro e w1 ⟨rfl,hp1,ho1⟩;have fJ:Hid (dN w1 g cl n b (qA nx yl xf n) fs vL em):=hp1;have F1:Hid (Fb w1 fb fo t cs 2 a m c ⟨false,yf,yl⟩):=(HF.out.only O0.out.drew (fun h=>h)).only ho1 (by omega);have P1:Hid (ig w1 w.heap.size ⟨false,xf,xl⟩):=(P0.out.only ((Only.refl (fun _=>False) _).drew) (fun h=>h)).only ho1 (by omega);have O1:Hid (Only (fun h=>h=fb∨h=g) w w1):=(O0.out.drew.mono (fun _ h=>h.elim)).trans (ho1.mono (fun _ h=>Or.inr h));have hw1:w.heap.size < w1.heap.size:=P1.out.lt;clear hp1 ho1 c0 l0 l1 l2 l3;have F2:Hid (Fb w1 fb fo t cs 2 a m c ⟨false,yf,yl⟩):=F1.out;have S2:Hid (Same cs cs fo):=⟨rfl,fun _ _=>rfl⟩;have O2:Hid (Only (fun h=>h=fb∨h=g) w w1):=O1.out;have P2:Hid (ig w1 w.heap.size ⟨false,xf,xl⟩):=P1.out;have iC:Hid (dN w1 g cl n b (qA nx yl xf n) fs vL em):=fJ.out;have hw2:w.heap.size < w1.heap.size:=P2.out.lt;have c2:w1.cell? ⟨fb,fo+2,none⟩=some (.bool false):=F2.out.c 2 (by decide);have e0:w1.cell? ⟨w.heap.size,0,none⟩=some (.bool false):=ae P2.out;have k1:w1.cell? ⟨w.heap.size,5,none⟩=some (.int .u64 (wd xl 0:Int)):=P2.out.l 0 (by decide);have k2:w1.cell? ⟨w.heap.size,6,none⟩=some (.int .u64 (wd xl 1:Int)):=P2.out.l 1 (by decide);have k3:w1.cell? ⟨w.heap.size,7,none⟩=some (.int .u64 (wd xl 2:Int)):=P2.out.l 2 (by decide);have k4:w1.cell? ⟨w.heap.size,8,none⟩=some (.int .u64 (wd xl 3:Int)):=P2.out.l 3 (by decide);have l0:w1.cell? ⟨fb,fo+7,none⟩=some (.int .u64 (wd yl 0:Int)):=F2.out.l.1;have l1:w1.cell? ⟨fb,fo+8,none⟩=some (.int .u64 (wd yl 1:Int)):=F2.out.l.2.1;have l2:w1.cell? ⟨fb,fo+9,none⟩=some (.int .u64 (wd yl 2:Int)):=F2.out.l.2.2.1;have l3:w1.cell? ⟨fb,fo+10,none⟩=some (.int .u64 (wd yl 3:Int)):=F2.out.l.2.2.2;have g2:=F2.out.fz (fo+2);have g7:=F2.out.fz (fo+7);have g8:=F2.out.fz (fo+8);have g9:=F2.out.fz (fo+9);have g10:=F2.out.fz (fo+10))
 all_goals
  go_wp2_with fail
  go_end0
  have hX:gG (mG cs (fo+7) xl 4) fo 2 a m c ⟨false,yf,xl⟩:=(F2.out.2.oV _).1
  refine⟨rfl,⟨_,⟨aa (tq (o:=fo+7) (S:=xl) F2.out.1) _,(hX.oU false).1⟩,(S2.out.trans (F2.out.2.oV _).2).trans (hX.oU false).2⟩,(Below.heap_setCell _ _ _ _ (by show g≠fb;omega)).trans ((tX _ (fo+7) xl (by omega)).trans iC.out),?_⟩
  exact Only.setCell (S:=fun h=>h=fb∨h=g) (iV O2.out (fo+7) xl (Or.inl rfl)) (p:=⟨fb,fo+2,none⟩) (Or.inl rfl) _
theorem zD (g cl n:Nat) (b nx:Nat→Nat) (fs:Nat) (vL:Value) (em:Nat) (fb fo:Nat) (t:TypeId) (cs:Array Value) (a:Option Addr) (m c:Nat) (xf xl yf yl:Nat) (w:World) (hP:dN w g cl n b nx fs vL em) (hn:n≤200) (BH:xf < 2 ^ 256) (hF:Fb w fb fo t cs 2 a m c ⟨false,yf,yl⟩) (hgf:fb≠g):
  Calls Tryz.prog 103 #[.pointer (some ⟨g,0,none⟩),.pointer (some ⟨fb,fo,none⟩),qJ ⟨true,xf,xl⟩] w fun e w'=>e=.returned (.tuple #[])∧(∃cs',Fb w' fb fo t cs' 2 a m c ⟨false,yf,(xl ||| yl)⟩∧Same cs cs' fo)∧dN w' g cl n b (qA nx yl xf n) fs vL em∧Only (fun h=>h=fb∨h=g) w w':=by
 have hlt:=hF.lt
 have QQ:=hP.lt
 have HF:Hid (Fb w fb fo t cs 2 a m c ⟨false,yf,yl⟩):=hF
 have HP:Hid (dN w g cl n b nx fs vL em):=hP
 have HX:Hid (xf < 2 ^ 256):=BH
 have c0:w.cell? ⟨fb,fo,none⟩=some (.int .u8 2):=hF.c 0 (by decide)
 obtain⟨l0,l1,l2,l3⟩:=hF.l
 simp only at l0 l1 l2 l3
 clear hF hP BH
 have P0:Hid (ig (w.alloc (.cells (dO ⟨true,xf,xl⟩) 143)) w.heap.size ⟨true,xf,xl⟩):=heap_alloc_new _ _
 have O0:Hid (Only (fun _=>False) w (w.alloc (.cells (dO ⟨true,xf,xl⟩) 143))):=(Only.refl _ _).alloc _
 unfold qJ
 unfold dO at P0 O0 ⊢
 go_enter Tryz.func103,Tryz.ntmps103
 go_wp2_with fail
 go_region_with (go_at_call 124;refine (iX g cl n b nx fs vL em yl xf _ (HP.out.only O0.out.drew (fun h=>h)) hn HX.out).mono ?_;rintro e w1 ⟨rfl,hp1,ho1⟩;have fJ:Hid (dN w1 g cl n b (qA nx yl xf n) fs vL em):=hp1;have F1:Hid (Fb w1 fb fo t cs 2 a m c ⟨false,yf,yl⟩):=(HF.out.only O0.out.drew (fun h=>h)).only ho1 (by omega);have P1:Hid (ig w1 w.heap.size ⟨true,xf,xl⟩):=(P0.out.only ((Only.refl (fun _=>False) _).drew) (fun h=>h)).only ho1 (by omega);have O1:Hid (Only (fun h=>h=fb∨h=g) w w1):=(O0.out.drew.mono (fun _ h=>h.elim)).trans (ho1.mono (fun _ h=>Or.inr h));have hw1:w.heap.size < w1.heap.size:=P1.out.lt;clear hp1 ho1 c0 l0 l1 l2 l3;have F2:Hid (Fb w1 fb fo t cs 2 a m c ⟨false,yf,yl⟩):=F1.out;have S2:Hid (Same cs cs fo):=⟨rfl,fun _ _=>rfl⟩;have O2:Hid (Only (fun h=>h=fb∨h=g) w w1):=O1.out;have P2:Hid (ig w1 w.heap.size ⟨true,xf,xl⟩):=P1.out;have iC:Hid (dN w1 g cl n b (qA nx yl xf n) fs vL em):=fJ.out;have hw2:w.heap.size < w1.heap.size:=P2.out.lt;have c2:w1.cell? ⟨fb,fo+2,none⟩=some (.bool false):=F2.out.c 2 (by decide);have e0:w1.cell? ⟨w.heap.size,0,none⟩=some (.bool true):=ae P2.out;have k1:w1.cell? ⟨w.heap.size,5,none⟩=some (.int .u64 (wd xl 0:Int)):=P2.out.l 0 (by decide);have k2:w1.cell? ⟨w.heap.size,6,none⟩=some (.int .u64 (wd xl 1:Int)):=P2.out.l 1 (by decide);have k3:w1.cell? ⟨w.heap.size,7,none⟩=some (.int .u64 (wd xl 2:Int)):=P2.out.l 2 (by decide);have k4:w1.cell? ⟨w.heap.size,8,none⟩=some (.int .u64 (wd xl 3:Int)):=P2.out.l 3 (by decide);have l0:w1.cell? ⟨fb,fo+7,none⟩=some (.int .u64 (wd yl 0:Int)):=F2.out.l.1;have l1:w1.cell? ⟨fb,fo+8,none⟩=some (.int .u64 (wd yl 1:Int)):=F2.out.l.2.1;have l2:w1.cell? ⟨fb,fo+9,none⟩=some (.int .u64 (wd yl 2:Int)):=F2.out.l.2.2.1;have l3:w1.cell? ⟨fb,fo+10,none⟩=some (.int .u64 (wd yl 3:Int)):=F2.out.l.2.2.2;have g2:=F2.out.fz (fo+2);have g7:=F2.out.fz (fo+7);have g8:=F2.out.fz (fo+8);have g9:=F2.out.fz (fo+9);have g10:=F2.out.fz (fo+10))
 all_goals
  go_wp2_with (first |(go_at_call 79;refine (dz w.heap.size 5 xl yl _ 143 _ P2.out (xS _)).mono ?_;rintro e w3 ⟨rfl,hp3,ho3⟩;rw [Ee] at hp3;have P3:Hid (ig w3 w.heap.size ⟨true,xf,xl ||| yl⟩):=hp3;have F3:Hid (Fb w3 fb fo t cs 2 a m c ⟨false,yf,yl⟩):=F2.out.only ho3 (by omega);have O3:Hid (Only (fun h=>h=fb∨h=g∨h=w.heap.size) w w3):=(O2.out.mono (fun _ h=>by omega)).trans (ho3.mono (fun _ h=>Or.inr (Or.inr h)));have QR:Hid (dN w3 g cl n b (qA nx yl xf n) fs vL em):=iC.out.only ho3 (by omega);have m1:w3.cell? ⟨w.heap.size,5,none⟩=some (.int .u64 (wd (xl ||| yl) 0:Int)):=P3.out.l 0 (by decide);have m2:w3.cell? ⟨w.heap.size,6,none⟩=some (.int .u64 (wd (xl ||| yl) 1:Int)):=P3.out.l 1 (by decide);have m3:w3.cell? ⟨w.heap.size,7,none⟩=some (.int .u64 (wd (xl ||| yl) 2:Int)):=P3.out.l 2 (by decide);have m4:w3.cell? ⟨w.heap.size,8,none⟩=some (.int .u64 (wd (xl ||| yl) 3:Int)):=P3.out.l 3 (by decide);clear hp3 ho3) |(refine wpList_store_midAny rfl 124 _ _ rfl rfl fb (fo+7) (sC (xl ||| yl)) rfl rfl t _ F3.out.1 (by have:=F3.out.2.size;show fo+7+4≤_;omega) xN (xO _) ?_;intro w4 h4 o4;rw [I5] at h4;have F4:Hid (Fb w4 fb fo t (mG cs (fo+7) (xl ||| yl) 4) 2 a m c ⟨false,yf,(xl ||| yl)⟩):=⟨h4,(F3.out.2.oV _).1⟩;have O4:Hid (Only (fun h=>h=fb∨h=g∨h=w.heap.size) w w4):=O3.out.trans (o4.mono (fun _ h=>Or.inl h));have sH:Hid (dN w4 g cl n b (qA nx yl xf n) fs vL em):=QR.out.only o4 (by omega);have P4:Hid (ig w4 w.heap.size ⟨true,xf,(xl ||| yl)⟩):=P3.out.only o4 (by omega);have c4:w4.cell? ⟨fb,fo+2,none⟩=some (.bool false):=F4.out.c 2 (by decide);have f4:=F4.out.fz (fo+2);have e4:w4.cell? ⟨w.heap.size,0,none⟩=some (.bool true):=ae P4.out;clear h4 o4))
  go_end0
  refine⟨rfl,⟨_,⟨aa F4.out.1 _,(F4.out.2.oU false).1⟩,(S2.out.trans (F3.out.2.oV _).2).trans (F4.out.2.oU false).2⟩,(Below.heap_setCell _ _ _ _ (by show g≠fb;omega)).trans sH.out,?_⟩
  exact Only.old (P:=fun h=>h=fb∨h=g∨h=w.heap.size) (O4.out.setCell (p:=⟨fb,fo+2,none⟩) (Or.inl rfl) _) (fun _ h=>by omega)
theorem zG (g cl n:Nat) (b nx:Nat→Nat) (fs:Nat) (vL:Value) (em:Nat) (fb fo:Nat) (t:TypeId) (cs:Array Value) (a:Option Addr) (m c:Nat) (xf xl yf yl:Nat) (w:World) (hP:dN w g cl n b nx fs vL em) (hn:n≤200) (BH:xf < 2 ^ 256) (hF:Fb w fb fo t cs 2 a m c ⟨true,yf,yl⟩) (hgf:fb≠g):
  Calls Tryz.prog 103 #[.pointer (some ⟨g,0,none⟩),.pointer (some ⟨fb,fo,none⟩),qJ ⟨false,xf,xl⟩] w fun e w'=>e=.returned (.tuple #[])∧(∃cs',Fb w' fb fo t cs' 2 a m c ⟨false,(yf ||| xf),xl⟩∧Same cs cs' fo)∧dN w' g cl n b (qA nx yl xf n) fs vL em∧Only (fun h=>h=fb∨h=g) w w':=by
 have hlt:=hF.lt
 have QQ:=hP.lt
 have HF:Hid (Fb w fb fo t cs 2 a m c ⟨true,yf,yl⟩):=hF
 have HP:Hid (dN w g cl n b nx fs vL em):=hP
 have HX:Hid (xf < 2 ^ 256):=BH
 have c0:w.cell? ⟨fb,fo,none⟩=some (.int .u8 2):=hF.c 0 (by decide)
 obtain⟨l0,l1,l2,l3⟩:=hF.l
 simp only at l0 l1 l2 l3
 clear hF hP BH
 have P0:Hid (ig (w.alloc (.cells (dO ⟨false,xf,xl⟩) 143)) w.heap.size ⟨false,xf,xl⟩):=heap_alloc_new _ _
 have O0:Hid (Only (fun _=>False) w (w.alloc (.cells (dO ⟨false,xf,xl⟩) 143))):=(Only.refl _ _).alloc _
 unfold qJ
 unfold dO at P0 O0 ⊢
 go_enter Tryz.func103,Tryz.ntmps103
 go_wp2_with fail
 go_region_with (go_at_call 124;refine (iX g cl n b nx fs vL em yl xf _ (HP.out.only O0.out.drew (fun h=>h)) hn HX.out).mono ?_;rintro e w1 ⟨rfl,hp1,ho1⟩;have fJ:Hid (dN w1 g cl n b (qA nx yl xf n) fs vL em):=hp1;have F1:Hid (Fb w1 fb fo t cs 2 a m c ⟨true,yf,yl⟩):=(HF.out.only O0.out.drew (fun h=>h)).only ho1 (by omega);have P1:Hid (ig w1 w.heap.size ⟨false,xf,xl⟩):=(P0.out.only ((Only.refl (fun _=>False) _).drew) (fun h=>h)).only ho1 (by omega);have O1:Hid (Only (fun h=>h=fb∨h=g) w w1):=(O0.out.drew.mono (fun _ h=>h.elim)).trans (ho1.mono (fun _ h=>Or.inr h));have hw1:w.heap.size < w1.heap.size:=P1.out.lt;clear hp1 ho1 c0 l0 l1 l2 l3;have c2:w1.cell? ⟨fb,fo+2,none⟩=some (.bool true):=F1.out.c 2 (by decide);have k1:w1.cell? ⟨w.heap.size,1,none⟩=some (.int .u64 (wd xf 0:Int)):=P1.out.f 0 (by decide);have k2:w1.cell? ⟨w.heap.size,2,none⟩=some (.int .u64 (wd xf 1:Int)):=P1.out.f 1 (by decide);have k3:w1.cell? ⟨w.heap.size,3,none⟩=some (.int .u64 (wd xf 2:Int)):=P1.out.f 2 (by decide);have k4:w1.cell? ⟨w.heap.size,4,none⟩=some (.int .u64 (wd xf 3:Int)):=P1.out.f 3 (by decide))
 all_goals
  go_wp2_with fail
  go_region_with (go_at_call 79;refine (dz fb (fo+3) yf xf _ t _ (F1.out.only ((Only.refl (fun _=>False) w1).drew) (fun h=>h)).1 F1.out.2.first).mono ?_;rintro e w2 ⟨rfl,hp2,ho2⟩;have UE:Hid (Fb w2 fb fo t (mG cs (fo+3) (yf ||| xf) 4) 2 a m c ⟨true,yf ||| xf,yl⟩):=⟨hp2,(F1.out.2.zy _).1⟩;have S2':Hid (Same cs (mG cs (fo+3) (yf ||| xf) 4) fo):=(F1.out.2.zy _).2;obtain⟨cs2,F2,S2⟩:∃cs2,Hid (Fb w2 fb fo t cs2 2 a m c ⟨true,yf ||| xf,yl⟩)∧Hid (Same cs cs2 fo):=⟨_,UE,S2'⟩;have O2:Hid (Only (fun h=>h=fb∨h=g) w w2):=O1.out.drew.trans (ho2.mono (fun _ h=>Or.inl h));have P2:Hid (ig w2 w.heap.size ⟨false,xf,xl⟩):=(P1.out.only ((Only.refl (fun _=>False) w1).drew) (fun h=>h)).only ho2 (by omega);have iC:Hid (dN w2 g cl n b (qA nx yl xf n) fs vL em):=(fJ.out.only ((Only.refl (fun _=>False) w1).drew) (fun h=>h)).only ho2 (by omega);clear hp2 ho2 UE S2' c2 k1 k2 k3 k4;have hw2:w.heap.size < w2.heap.size:=P2.out.lt;have c2:w2.cell? ⟨fb,fo+2,none⟩=some (.bool true):=F2.out.c 2 (by decide);have e0:w2.cell? ⟨w.heap.size,0,none⟩=some (.bool false):=ae P2.out;have k1:w2.cell? ⟨w.heap.size,5,none⟩=some (.int .u64 (wd xl 0:Int)):=P2.out.l 0 (by decide);have k2:w2.cell? ⟨w.heap.size,6,none⟩=some (.int .u64 (wd xl 1:Int)):=P2.out.l 1 (by decide);have k3:w2.cell? ⟨w.heap.size,7,none⟩=some (.int .u64 (wd xl 2:Int)):=P2.out.l 2 (by decide);have k4:w2.cell? ⟨w.heap.size,8,none⟩=some (.int .u64 (wd xl 3:Int)):=P2.out.l 3 (by decide);have l0:w2.cell? ⟨fb,fo+7,none⟩=some (.int .u64 (wd yl 0:Int)):=F2.out.l.1;have l1:w2.cell? ⟨fb,fo+8,none⟩=some (.int .u64 (wd yl 1:Int)):=F2.out.l.2.1;have l2:w2.cell? ⟨fb,fo+9,none⟩=some (.int .u64 (wd yl 2:Int)):=F2.out.l.2.2.1;have l3:w2.cell? ⟨fb,fo+10,none⟩=some (.int .u64 (wd yl 3:Int)):=F2.out.l.2.2.2;have g2:=F2.out.fz (fo+2);have g7:=F2.out.fz (fo+7);have g8:=F2.out.fz (fo+8);have g9:=F2.out.fz (fo+9);have g10:=F2.out.fz (fo+10))
  all_goals
   go_wp2_with fail
   go_end0
   have hX:gG (mG cs2 (fo+7) xl 4) fo 2 a m c ⟨true,(yf ||| xf),xl⟩:=(F2.out.2.oV _).1
   refine⟨rfl,⟨_,⟨aa (tq (o:=fo+7) (S:=xl) F2.out.1) _,(hX.oU false).1⟩,(S2.out.trans (F2.out.2.oV _).2).trans (hX.oU false).2⟩,(Below.heap_setCell _ _ _ _ (by show g≠fb;omega)).trans ((tX _ (fo+7) xl (by omega)).trans iC.out),?_⟩
   exact Only.setCell (S:=fun h=>h=fb∨h=g) (iV O2.out (fo+7) xl (Or.inl rfl)) (p:=⟨fb,fo+2,none⟩) (Or.inl rfl) _
theorem zI (g cl n:Nat) (b nx:Nat→Nat) (fs:Nat) (vL:Value) (em:Nat) (fb fo:Nat) (t:TypeId) (cs:Array Value) (a:Option Addr) (m c:Nat) (xf xl yf yl:Nat) (w:World) (hP:dN w g cl n b nx fs vL em) (hn:n≤200) (BH:xf < 2 ^ 256) (hF:Fb w fb fo t cs 2 a m c ⟨true,yf,yl⟩) (hgf:fb≠g):
  Calls Tryz.prog 103 #[.pointer (some ⟨g,0,none⟩),.pointer (some ⟨fb,fo,none⟩),qJ ⟨true,xf,xl⟩] w fun e w'=>e=.returned (.tuple #[])∧(∃cs',Fb w' fb fo t cs' 2 a m c ⟨true,(yf ||| xf),(xl ||| yl)⟩∧Same cs cs' fo)∧dN w' g cl n b (qA nx yl xf n) fs vL em∧Only (fun h=>h=fb∨h=g) w w':=by
 have hlt:=hF.lt
 have QQ:=hP.lt
 have HF:Hid (Fb w fb fo t cs 2 a m c ⟨true,yf,yl⟩):=hF
 have HP:Hid (dN w g cl n b nx fs vL em):=hP
 have HX:Hid (xf < 2 ^ 256):=BH
 have c0:w.cell? ⟨fb,fo,none⟩=some (.int .u8 2):=hF.c 0 (by decide)
 obtain⟨l0,l1,l2,l3⟩:=hF.l
 simp only at l0 l1 l2 l3
 clear hF hP BH
 have P0:Hid (ig (w.alloc (.cells (dO ⟨true,xf,xl⟩) 143)) w.heap.size ⟨true,xf,xl⟩):=heap_alloc_new _ _
 have O0:Hid (Only (fun _=>False) w (w.alloc (.cells (dO ⟨true,xf,xl⟩) 143))):=(Only.refl _ _).alloc _
 unfold qJ
 unfold dO at P0 O0 ⊢
 go_enter Tryz.func103,Tryz.ntmps103
 go_wp2_with fail
 go_region_with (go_at_call 124;refine (iX g cl n b nx fs vL em yl xf _ (HP.out.only O0.out.drew (fun h=>h)) hn HX.out).mono ?_;rintro e w1 ⟨rfl,hp1,ho1⟩;have fJ:Hid (dN w1 g cl n b (qA nx yl xf n) fs vL em):=hp1;have F1:Hid (Fb w1 fb fo t cs 2 a m c ⟨true,yf,yl⟩):=(HF.out.only O0.out.drew (fun h=>h)).only ho1 (by omega);have P1:Hid (ig w1 w.heap.size ⟨true,xf,xl⟩):=(P0.out.only ((Only.refl (fun _=>False) _).drew) (fun h=>h)).only ho1 (by omega);have O1:Hid (Only (fun h=>h=fb∨h=g) w w1):=(O0.out.drew.mono (fun _ h=>h.elim)).trans (ho1.mono (fun _ h=>Or.inr h));have hw1:w.heap.size < w1.heap.size:=P1.out.lt;clear hp1 ho1 c0 l0 l1 l2 l3;have c2:w1.cell? ⟨fb,fo+2,none⟩=some (.bool true):=F1.out.c 2 (by decide);have k1:w1.cell? ⟨w.heap.size,1,none⟩=some (.int .u64 (wd xf 0:Int)):=P1.out.f 0 (by decide);have k2:w1.cell? ⟨w.heap.size,2,none⟩=some (.int .u64 (wd xf 1:Int)):=P1.out.f 1 (by decide);have k3:w1.cell? ⟨w.heap.size,3,none⟩=some (.int .u64 (wd xf 2:Int)):=P1.out.f 2 (by decide);have k4:w1.cell? ⟨w.heap.size,4,none⟩=some (.int .u64 (wd xf 3:Int)):=P1.out.f 3 (by decide))
 all_goals
  go_wp2_with fail
  go_region_with (go_at_call 79;refine (dz fb (fo+3) yf xf _ t _ (F1.out.only ((Only.refl (fun _=>False) w1).drew) (fun h=>h)).1 F1.out.2.first).mono ?_;rintro e w2 ⟨rfl,hp2,ho2⟩;have UE:Hid (Fb w2 fb fo t (mG cs (fo+3) (yf ||| xf) 4) 2 a m c ⟨true,yf ||| xf,yl⟩):=⟨hp2,(F1.out.2.zy _).1⟩;have S2':Hid (Same cs (mG cs (fo+3) (yf ||| xf) 4) fo):=(F1.out.2.zy _).2;obtain⟨cs2,F2,S2⟩:∃cs2,Hid (Fb w2 fb fo t cs2 2 a m c ⟨true,yf ||| xf,yl⟩)∧Hid (Same cs cs2 fo):=⟨_,UE,S2'⟩;have O2:Hid (Only (fun h=>h=fb∨h=g) w w2):=O1.out.drew.trans (ho2.mono (fun _ h=>Or.inl h));have P2:Hid (ig w2 w.heap.size ⟨true,xf,xl⟩):=(P1.out.only ((Only.refl (fun _=>False) w1).drew) (fun h=>h)).only ho2 (by omega);have iC:Hid (dN w2 g cl n b (qA nx yl xf n) fs vL em):=(fJ.out.only ((Only.refl (fun _=>False) w1).drew) (fun h=>h)).only ho2 (by omega);clear hp2 ho2 UE S2' c2 k1 k2 k3 k4;have hw2:w.heap.size < w2.heap.size:=P2.out.lt;have c2:w2.cell? ⟨fb,fo+2,none⟩=some (.bool true):=F2.out.c 2 (by decide);have e0:w2.cell? ⟨w.heap.size,0,none⟩=some (.bool true):=ae P2.out;have k1:w2.cell? ⟨w.heap.size,5,none⟩=some (.int .u64 (wd xl 0:Int)):=P2.out.l 0 (by decide);have k2:w2.cell? ⟨w.heap.size,6,none⟩=some (.int .u64 (wd xl 1:Int)):=P2.out.l 1 (by decide);have k3:w2.cell? ⟨w.heap.size,7,none⟩=some (.int .u64 (wd xl 2:Int)):=P2.out.l 2 (by decide);have k4:w2.cell? ⟨w.heap.size,8,none⟩=some (.int .u64 (wd xl 3:Int)):=P2.out.l 3 (by decide);have l0:w2.cell? ⟨fb,fo+7,none⟩=some (.int .u64 (wd yl 0:Int)):=F2.out.l.1;have l1:w2.cell? ⟨fb,fo+8,none⟩=some (.int .u64 (wd yl 1:Int)):=F2.out.l.2.1;have l2:w2.cell? ⟨fb,fo+9,none⟩=some (.int .u64 (wd yl 2:Int)):=F2.out.l.2.2.1;have l3:w2.cell? ⟨fb,fo+10,none⟩=some (.int .u64 (wd yl 3:Int)):=F2.out.l.2.2.2;have g2:=F2.out.fz (fo+2);have g7:=F2.out.fz (fo+7);have g8:=F2.out.fz (fo+8);have g9:=F2.out.fz (fo+9);have g10:=F2.out.fz (fo+10))
  all_goals
   go_wp2_with (first |(go_at_call 79;refine (dz w.heap.size 5 xl yl _ 143 _ P2.out (xS _)).mono ?_;rintro e w3 ⟨rfl,hp3,ho3⟩;rw [Ee] at hp3;have P3:Hid (ig w3 w.heap.size ⟨true,xf,xl ||| yl⟩):=hp3;have F3:Hid (Fb w3 fb fo t cs2 2 a m c ⟨true,(yf ||| xf),yl⟩):=F2.out.only ho3 (by omega);have O3:Hid (Only (fun h=>h=fb∨h=g∨h=w.heap.size) w w3):=(O2.out.mono (fun _ h=>by omega)).trans (ho3.mono (fun _ h=>Or.inr (Or.inr h)));have QR:Hid (dN w3 g cl n b (qA nx yl xf n) fs vL em):=iC.out.only ho3 (by omega);have m1:w3.cell? ⟨w.heap.size,5,none⟩=some (.int .u64 (wd (xl ||| yl) 0:Int)):=P3.out.l 0 (by decide);have m2:w3.cell? ⟨w.heap.size,6,none⟩=some (.int .u64 (wd (xl ||| yl) 1:Int)):=P3.out.l 1 (by decide);have m3:w3.cell? ⟨w.heap.size,7,none⟩=some (.int .u64 (wd (xl ||| yl) 2:Int)):=P3.out.l 2 (by decide);have m4:w3.cell? ⟨w.heap.size,8,none⟩=some (.int .u64 (wd (xl ||| yl) 3:Int)):=P3.out.l 3 (by decide);clear hp3 ho3) |(refine wpList_store_midAny rfl 124 _ _ rfl rfl fb (fo+7) (sC (xl ||| yl)) rfl rfl t _ F3.out.1 (by have:=F3.out.2.size;show fo+7+4≤_;omega) xN (xO _) ?_;intro w4 h4 o4;rw [I5] at h4;have F4:Hid (Fb w4 fb fo t (mG cs2 (fo+7) (xl ||| yl) 4) 2 a m c ⟨true,(yf ||| xf),(xl ||| yl)⟩):=⟨h4,(F3.out.2.oV _).1⟩;have O4:Hid (Only (fun h=>h=fb∨h=g∨h=w.heap.size) w w4):=O3.out.trans (o4.mono (fun _ h=>Or.inl h));have sH:Hid (dN w4 g cl n b (qA nx yl xf n) fs vL em):=QR.out.only o4 (by omega);have P4:Hid (ig w4 w.heap.size ⟨true,xf,(xl ||| yl)⟩):=P3.out.only o4 (by omega);have c4:w4.cell? ⟨fb,fo+2,none⟩=some (.bool true):=F4.out.c 2 (by decide);have f4:=F4.out.fz (fo+2);have e4:w4.cell? ⟨w.heap.size,0,none⟩=some (.bool true):=ae P4.out;clear h4 o4))
   go_end0
   refine⟨rfl,⟨_,⟨aa F4.out.1 _,(F4.out.2.oU true).1⟩,(S2.out.trans (F3.out.2.oV _).2).trans (F4.out.2.oU true).2⟩,(Below.heap_setCell _ _ _ _ (by show g≠fb;omega)).trans sH.out,?_⟩
   exact Only.old (P:=fun h=>h=fb∨h=g∨h=w.heap.size) (O4.out.setCell (p:=⟨fb,fo+2,none⟩) (Or.inl rfl) _) (fun _ h=>by omega)
theorem I6 (g cl n:Nat) (b nx:Nat→Nat) (fs:Nat) (vL:Value) (em:Nat) (fb fo:Nat) (t:TypeId) (cs:Array Value) (a:Option Addr) (m c:Nat) (y x:Au.Nd) (w:World) (hP:dN w g cl n b nx fs vL em) (hn:n≤200) (BH:x.first < 2 ^ 256) (hF:Fb w fb fo t cs 2 a m c y) (hgf:fb≠g):
  Calls Tryz.prog 103 #[.pointer (some ⟨g,0,none⟩),.pointer (some ⟨fb,fo,none⟩),qJ x] w fun e w'=>e=.returned (.tuple #[])∧(∃cs',Fb w' fb fo t cs' 2 a m c (Au.seq1 y x)∧Same cs cs' fo)∧dN w' g cl n b (qA nx y.last x.first n) fs vL em∧Only (fun h=>h=fb∨h=g) w w':=by
 obtain⟨xe,xf,xl⟩:=x
 obtain⟨ye,yf,yl⟩:=y
 cases ye <;> cases xe
 ·exact zz g cl n b nx fs vL em fb fo t cs a m c xf xl yf yl w hP hn BH hF hgf
 ·have h:=zD g cl n b nx fs vL em fb fo t cs a m c xf xl yf yl w hP hn BH hF hgf
  rw [Nat.or_comm xl] at h
  exact h
 ·exact zG g cl n b nx fs vL em fb fo t cs a m c xf xl yf yl w hP hn BH hF hgf
 ·have h:=zI g cl n b nx fs vL em fb fo t cs a m c xf xl yf yl w hP hn BH hF hgf
  rw [Nat.or_comm xl] at h
  exact h
end Go.Proofs.YtdlabakleldgaaaGreatDoor
