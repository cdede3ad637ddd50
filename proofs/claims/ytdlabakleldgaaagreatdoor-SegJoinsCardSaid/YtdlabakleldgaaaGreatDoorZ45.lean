/- Ha -/
import Derived.Test.YtdlabakleldgaaaGreatDoorZ00
import Derived.Test.YtdlabakleldgaaaGreatDoorZ21
set_option linter.unusedVariables false
set_option linter.unusedSimpArgs false
set_option maxRecDepth 100000
set_option maxHeartbeats 8000000
namespace Go.Proofs.YtdlabakleldgaaaGreatDoor
open Go.RowKit Go.Maps
theorem Xl (c:Int) (w:World) (h0:0≤c) (h1:c < 256):(convert 22 9 (.slice (some ⟨w.heap.size,0,none⟩) 1 1)).run Tryz.prog (w.alloc (.cells #[.int .u8 c] 5))=.ok (.string (bs [c.toNat.toUInt8])) (w.alloc (.cells #[.int .u8 c] 5)):=by
 have h:=run_convert_bytes_back (P:=Tryz.prog) (w.alloc (.cells #[.int .u8 c] 5)) 22 9 5 ⟨w.heap.size,0,none⟩ 1 [c.toNat.toUInt8] Tryz.underlying22 Tryz.underlying5 Tryz.underlying9
 have hc:(c.toNat.toUInt8.toNat:Int)=c:=by
  rw [show c.toNat.toUInt8.toNat=c.toNat % 256 from rfl]
  omega
 exact h (by
  intro j hj
  obtain rfl:j=0:=by simpa using hj
  have h2:(w.alloc (.cells #[.int .u8 c] 5)).cell? ⟨w.heap.size,0,none⟩=some (.int .u8 c):=(cell_of_row _ _ _ _ _ _ (heap_alloc_new w _)).trans rfl
  rw [Addr.add_mid]
  simp only [List.getElem_cons_zero]
  rw [hc]
  exact h2)
theorem Ho (n i:Int) (w:World) (hn:1≤n) (bg:n≤6) (hi:0≤i) (hi2:i≤255):Calls Tryz.prog 20 #[.int .i64 n,.int .i64 i] w fun e w'=>e=.returned (.string (bs [(65+i % n).toNat.toUInt8]))∧Only (fun _=>False) w w':=by
 have h0:¬ n=0:=by omega
 have hr1:0≤i % n:=Int.emod_nonneg _ h0
 have hr2:i % n < 6:=by have:=Int.emod_lt_of_pos i (by omega:0 < n);omega
 have hcv:=Xl (65+i % n) w (by omega) (by omega)
 go_enter Tryz.func20,Tryz.ntmps20
 go_wp2_with fail
 go_ret
 exact⟨rfl,(Only.refl _ w).alloc _⟩
theorem DK (x y:Rl.Str):bs x++bs y=bs (x++y):=by
 unfold bs
 apply ByteArray.ext
 simp
theorem OQ (x:Rl.Str) (y:Rl.Str):bs x++(⟨y.toArray⟩:ByteArray)=bs (x++y):=DK x y
end Go.Proofs.YtdlabakleldgaaaGreatDoor
namespace Go.Proofs.YtdlabakleldgaaaGreatDoor
open Go.RowKit Go.Maps
namespace Hd
abbrev Str:=List UInt8
def name (n i:Nat):Str:=[(65+i % n).toUInt8]
def bit (b k:Nat):Bool:=decide (b / 2 ^ k % 2=1)
def names (n b:Nat):Nat→Str
 | 0=>[]
 | k+1=>names n b k++if bit b k=true then 32::name n k else []
def Xm (n b k:Nat):Str:=names n b k++[32]
theorem bE (n b:Nat):∀k,(names n b k).length≤2*k
 | 0=>by simp [names]
 | k+1=>by
  have:=bE n b k
  rw [names,List.length_append]
  split
  ·simp [name];omega
  ·simp;omega
end Hd
theorem fB (n i:Nat) (w:World) (hn:1≤n) (bg:n≤6) (hi2:i≤255):Calls Tryz.prog 20 #[.int .i64 (n:Int),.int .i64 (i:Int)] w fun e w'=>e=.returned (.string (bs (Hd.name n i)))∧Only (fun _=>False) w w':=by
 refine (Ho n i w (by omega) (by omega) (by omega) (by omega)).mono ?_
 rintro e w' ⟨rfl,ho⟩
 refine⟨?_,ho⟩
 unfold Hd.name
 rw [show (65+(i:Int) %(n:Int)).toNat=65+i % n by omega]
theorem Xn (b k:Nat):(((b:Int) / 2 ^ k).tmod 2==1)=Hd.bit b k:=by
 have h1:((b:Int) / 2 ^ k)=((b / 2 ^ k:Nat):Int):=by
  rw [Int.natCast_ediv,Int.natCast_pow]
  rfl
 rw [h1,Int.tmod_eq_emod_of_nonneg (Int.natCast_nonneg _)]
 unfold Hd.bit
 generalize b / 2 ^ k=m
 rw [Bool.eq_iff_iff]
 simp only [beq_iff_eq,decide_eq_true_eq]
 omega
theorem sz (l:List UInt8):∃m,(bs l).size=m∧m=l.length:=⟨_,rfl,bf l⟩
theorem gY (n b:Nat) (w:World) (hn:1≤n) (bg:n≤6) (hb:b≤255):Calls Tryz.prog 19 #[.int .i64 (n:Int),.int .u8 (b:Int)] w fun e w'=>e=.returned (.string (bs (Hd.names n b n)))∧Only (fun _=>False) w w':=by
 go_enter Tryz.func19,Tryz.ntmps19
 go_wp2_with fail
 go_loopg [5,6] n (fun g t i wr=>∃(k:Nat) (W:World),W=wr∧g=n - k∧k≤n∧t=.string (bs (Hd.names n b k))∧i=.int .i64 (k:Int)∧Only (fun _=>False) w W)
 case atStart=>exact⟨0,_,rfl,rfl,by omega,rfl,rfl,Only.refl _ _⟩
 case round=>
  obtain⟨k,W,hW,rfl,hk,rfl,rfl,hOr⟩:=hrel
  subst hW
  by_cases hlt:k < n
  ·have t1:(k:Int) <(n:Int):=by omega
   have hq:=Xn b k
   obtain⟨m,hsz,hm⟩:=sz (Hd.names n b k)
   have hm2:m≤12:=by have:=Hd.bE n b k;omega
   clear hm
   by_cases hbit:Hd.bit b k=true
   ·rw [hbit] at hq
    have hS1:bs (Hd.names n b k)++(⟨#[32]⟩:ByteArray)=bs (Hd.Xm n b k):=OQ _ [32]
    have hsz1:(bs (Hd.Xm n b k)).size=m+1:=by rw [←hsz,bf,bf];unfold Hd.Xm;simp
    have hsz2:(bs (Hd.name n k)).size=1:=bf _
    have HS2:Hid (bs (Hd.Xm n b k)++bs (Hd.name n k)=bs (Hd.names n b (k+1))):=by
     show _=_
     rw [DK]
     unfold Hd.Xm
     rw [Hd.names,if_pos hbit,List.append_assoc];rfl
    clear hbit
    go_wp2_with (go_at_call 20;refine (fB n k _ hn bg (by omega)).mono ?_;rintro e w1 ⟨rfl,ho1⟩)
    go_roundg (n -(k+1))
    case measure=>omega
    case rel=>exact⟨k+1,_,rfl,rfl,by omega,by rw [HS2.out],by go_num,hOr.trans ho1⟩
   ·have Qp:Hd.bit b k=false:=by simpa using hbit
    rw [Qp] at hq
    have HS2:Hid (Hd.names n b k=Hd.names n b (k+1)):=by
     show _=_
     rw [Hd.names,if_neg hbit,List.append_nil]
    clear hbit Qp
    go_wp2_with fail
    go_roundg (n -(k+1))
    case measure=>omega
    case rel=>exact⟨k+1,_,rfl,rfl,by omega,by rw [←HS2.out],by go_num,hOr⟩
  ·have t2:decide ((k:Int) <(n:Int))=false:=decide_eq_false (by omega)
   obtain rfl:k=n:=by omega
   go_wp2_with fail
   go_ret
   exact⟨rfl,hOr⟩
end Go.Proofs.YtdlabakleldgaaaGreatDoor
namespace Go.Proofs.YtdlabakleldgaaaGreatDoor
open Go.RowKit Go.Maps
namespace Hd
def cat (x y:Str):Str:=x++y
theorem bA (x y:Str):(cat x y).length=x.length+y.length:=List.length_append
def at' (L:List Nat) (i:Nat):Nat:=L[i]?.getD 0
def up (L:List Nat) (i:Nat):Nat:=if i < L.length then i+1 else i
theorem Ff {L:List Nat} {i:Nat} (h:i≤L.length):up L i≤L.length:=by unfold up;split <;> omega
def ex (n:Nat) (L:List Nat):Nat→Nat→Str × Nat
 | 0,i=>(name n (at' L i),up L i)
 | d+1,i=>
  if at' L i % 12=4 then ([46],up L i)
  else if at' L i % 12=5 then (cat (cat [91] (names n (at' L (up L i)) n)) [93],up L (up L i))
  else if at' L i % 12=6 then (cat (cat [91,94] (names n (at' L (up L i)) n)) [93],up L (up L i))
  else if at' L i % 12=7 then (cat (cat [40] (ex n L d (up L i)).1) [41,42],(ex n L d (up L i)).2)
  else if at' L i % 12=8 then (cat (cat [40] (ex n L d (up L i)).1) [41,43],(ex n L d (up L i)).2)
  else if at' L i % 12=9 then (cat (cat [40] (ex n L d (up L i)).1) [41,63],(ex n L d (up L i)).2)
  else if at' L i % 12=10 then (cat (cat (cat (cat [40] (ex n L d (up L i)).1) [124]) (ex n L d (ex n L d (up L i)).2).1) [41],(ex n L d (ex n L d (up L i)).2).2)
  else if at' L i % 12=11 then (cat (cat (ex n L d (up L i)).1 [32]) (ex n L d (ex n L d (up L i)).2).1,(ex n L d (ex n L d (up L i)).2).2)
  else (name n (at' L i),up L i)
theorem Bh (n:Nat) (L:List Nat) (hn:n≤6):∀d i,i≤L.length→(ex n L d i).2≤L.length∧(ex n L d i).1.length≤16*3 ^ d
 | 0,i,hi=>⟨Ff hi,by unfold ex;simp [name]⟩
 | d+1,i,hi=>by
  have h1:=Ff hi
  have a:=Bh n L hn d (up L i) h1
  have b:=Bh n L hn d (ex n L d (up L i)).2 a.1
  have c:=bE n (at' L (up L i)) n
  have p:1≤3 ^ d:=Nat.one_le_pow _ _ (by omega)
  have q:3 ^(d+1)=3*3 ^ d:=by rw [Nat.pow_succ];omega
  unfold ex
  repeat' split
  all_goals (first | exact⟨h1,by simp [name];omega⟩ | exact⟨Ff h1,by simp only [bA,List.length_cons,List.length_nil];omega⟩ | exact⟨a.1,by simp only [bA,List.length_cons,List.length_nil];omega⟩ | exact⟨b.1,by simp only [bA,List.length_cons,List.length_nil];omega⟩)
end Hd
theorem ek (x y:List UInt8):bs x++bs y=bs (Hd.cat x y):=DK x y
def Bw (w:World) (a:Option Addr) (n:Nat) (L:List Nat):Prop:=L.length=n∧∃b off,(0 < n→a=some ⟨b,off,none⟩∧b < w.heap.size)∧∀(j x:Nat),L[j]?=some x→x≤255∧w.cell? ⟨b,off+j,none⟩=some (.int .u8 (x:Int))
theorem Bw.only {w w':World} {a:Option Addr} {n:Nat} {L:List Nat} {P:Nat→Prop} (h:Bw w a n L) (ho:Only P w w') (hP:∀b,b < w.heap.size→P b→∀off,a≠some ⟨b,off,none⟩):Bw w' a n L:=by
 obtain⟨hl,b,off,h1,h2⟩:=h
 refine⟨hl,b,off,fun h0=>⟨(h1 h0).1,Nat.lt_of_lt_of_le (h1 h0).2 ho.size⟩,fun j x hj=>⟨(h2 j x hj).1,?_⟩⟩
 have h0:0 < n:=by have:=(List.getElem?_eq_some_iff.1 hj).1;omega
 obtain⟨ha,hb⟩:=h1 h0
 exact (World.cell?_of_block (a:=⟨b,off+j,none⟩) (ho.block b hb (fun hp=>hP b hb hp off ha))).trans (h2 j x hj).2
theorem Bw.le {w:World} {a:Option Addr} {n:Nat} {L:List Nat} (h:Bw w a n L) (i:Nat):Hd.at' L i≤255:=by
 unfold Hd.at'
 obtain⟨_,b,off,_,h2⟩:=h
 cases hi:L[i]? with
 | none=>simp
 | some x=>exact (h2 i x hi).1
def Rb (w:World) (g:Nat) (a:Option Addr) (n cap i:Nat):Prop:=w.heap[g]?=some (.cells #[.slice a n cap,.int .i64 (i:Int)] 94 (0,0))
theorem Rb.lt {w:World} {g:Nat} {a:Option Addr} {n cap i:Nat} (h:Rb w g a n cap i):g < w.heap.size:=(Array.getElem?_eq_some_iff.1 h).1
theorem Rb.only {w w':World} {g:Nat} {a:Option Addr} {n cap i:Nat} {P:Nat→Prop} (h:Rb w g a n cap i) (ho:Only P w w') (hn:¬ P g):Rb w' g a n cap i:=(ho.block g h.lt hn).trans h
def Xo (g:Nat) (a:Option Addr):Prop:=∀off,a≠some ⟨g,off,none⟩
theorem Bw.rd {w w':World} {a:Option Addr} {n g:Nat} {L:List Nat} (h:Bw w a n L) (ho:Only (·=g) w w') (hg:Xo g a):Bw w' a n L:=h.only ho (fun b _ hb off=>by subst hb;exact hg off)
theorem bM (g:Nat) (a:Option Addr) (n cap i:Nat) (L:List Nat) (w:World) (hR:Rb w g a n cap i) (hB:Bw w a n L) (hi:i≤n) (hn:n≤30) (hg:Xo g a):
  Calls Tryz.prog 60 #[.pointer (some ⟨g,0,none⟩)] w fun e w'=>e=.returned (.int .i64 (Hd.at' L i:Int))∧Rb w' g a n cap (Hd.up L i)∧Only (·=g) w w':=by
 have d0:w.cell? ⟨g,0,none⟩=some (.slice a n cap):=(cell_of_row _ _ _ _ _ _ hR).trans rfl
 have d1:w.cell? ⟨g,1,none⟩=some (.int .i64 (i:Int)):=(cell_of_row _ _ _ _ _ _ hR).trans rfl
 have f1:w.frozen? ⟨g,1,none⟩=false:=by simp [World.frozen?,show w.heap[g]?=_ from hR]
 have HR:=zH hR
 obtain⟨hl,b,off,h1,h2⟩:=hB
 by_cases hlt:i < n
 ·obtain⟨x,hx⟩:∃x,L[i]?=some x:=⟨L[i]'(by omega),List.getElem?_eq_getElem _⟩
  obtain⟨hx2,hc⟩:=h2 i x hx
  obtain⟨rfl,hb⟩:=h1 (by omega)
  have hat:Hd.at' L i=x:=by unfold Hd.at';rw [hx];rfl
  have hup:Hd.up L i=i+1:=by unfold Hd.up;rw [if_pos (by omega)]
  rw [hat,hup]
  have t1:¬(n:Int)≤(i:Int):=by omega
  have t2:decide ((n:Int)≤(i:Int))=false:=decide_eq_false t1
  have t3:(i:Int)+1 - 1=(i:Int):=by omega
  have t4:(i:Int) <(n:Int):=by omega
  have hbg:¬ b=g:=fun e=>hg off (by rw [e])
  clear h1 h2 hat hup hx hR hl
  go_enter Tryz.func60,Tryz.ntmps60
  go_wp2_with fail
  go_quiet (fail)
  go_wp2_with fail
  go_quiet (fail)
  go_wp2_with fail
  go_ret
  exact⟨rfl,aa HR.out _,(((Only.refl (·=g) w).drewN _).setCell (p:=⟨g,1,none⟩) rfl _).drewN _⟩
 ·obtain rfl:i=n:=by omega
  have hat:Hd.at' L i=0:=by unfold Hd.at';rw [List.getElem?_eq_none (by omega)];rfl
  have hup:Hd.up L i=i:=by unfold Hd.up;rw [if_neg (by omega)]
  rw [hat,hup]
  clear h1 h2 hat hup hR hl
  go_enter Tryz.func60,Tryz.ntmps60
  go_wp2_with fail
  go_quiet (fail)
  go_wp2_with fail
  go_ret
  exact⟨rfl,HR.out,(Only.refl _ w).drewN _⟩
end Go.Proofs.YtdlabakleldgaaaGreatDoor
namespace Go.Proofs.YtdlabakleldgaaaGreatDoor
open Go.RowKit Go.Maps
theorem DL (c x:List UInt8):(⟨c.toArray⟩:ByteArray)++bs x=bs (Hd.cat c x):=ek c x
theorem jG (x c:List UInt8):bs x++(⟨c.toArray⟩:ByteArray)=bs (Hd.cat x c):=ek x c
theorem iQ {x y:List UInt8} {m k:Nat} (h1:(bs x).size=m) (h2:(bs y).size=k):(bs (Hd.cat x y)).size=m+k:=by
 rw [bf] at h1 h2
 rw [bf,Hd.bA,h1,h2]
def OT (n g:Nat) (a:Option Addr) (k cap:Nat) (L:List Nat) (d:Nat):Prop:=∀(i:Nat) (w:World),Rb w g a k cap i→Bw w a k L→i≤k→
 Calls Tryz.prog 38 #[.int .i64 (n:Int),.pointer (some ⟨g,0,none⟩),.int .i64 (d:Int)] w fun e w'=>e=.returned (.string (bs (Hd.ex n L d i).1))∧Rb w' g a k cap (Hd.ex n L d i).2∧Only (·=g) w w'
theorem OU (n g:Nat) (a:Option Addr) (k cap:Nat) (L:List Nat) (hn:1≤n) (bg:n≤6) (hk:k≤30) (hg:Xo g a):OT n g a k cap L 0:=by
 intro i w hR hB hi
 have HR:=zH hR
 have HB:=zH hB
 have oD:=zH hg
 obtain⟨c,hc⟩:∃c,c=Hd.at' L i:=⟨_,rfl⟩
 have HC:=zH hc
 have xB:c≤255:=by rw [hc];exact hB.le i
 rw [show Hd.ex n L 0 i=(Hd.name n c,Hd.up L i) by rw [hc];rfl]
 clear hR hB hg hc
 go_enter Tryz.func38,Tryz.ntmps38
 go_wp2_with (first |(go_at_call 60;refine (bM g a k cap i L _ HR.out HB.out hi hk oD.out).mono ?_;rintro e w1 ⟨rfl,az,ho1⟩;rw [←HC.out];have HR1:=zH az;have HB1:Hid (Bw w1 a k L):=HB.out.rd ho1 oD.out;have bu:=zH ho1;clear az ho1) |(go_at_call 20;refine (fB n c _ hn bg xB).mono ?_;rintro e w2 ⟨rfl,ho2⟩))
 go_ret
 exact⟨rfl,HR1.out.only ho2 (fun h=>h),bu.out.trans (ho2.mono (fun _ h=>h.elim))⟩
theorem yU (n g:Nat) (a:Option Addr) (k cap:Nat) (L:List Nat) (d:Nat) (hn:1≤n) (bg:n≤6) (hk:k≤30) (hg:Xo g a) (hd:d≤3) (ih:OT n g a k cap L d):OT n g a k cap L (d+1):=by
 intro i w hR hB hi
 have hkl:L.length=k:=hB.1
 have HR:=zH hR
 have HB:=zH hB
 have oD:=zH hg
 have Xp:=zH ih
 obtain⟨c,hc⟩:∃c,c=Hd.at' L i:=⟨_,rfl⟩
 have HC:=zH hc
 have xB:c≤255:=by rw [hc];exact hB.le i
 obtain⟨c2,TH⟩:∃c2,c2=Hd.at' L (Hd.up L i):=⟨_,rfl⟩
 have TC:=zH TH
 have hc2:c2≤255:=by rw [TH];exact hB.le _
 have hup:Hd.up L i≤k:=by rw [←hkl];exact Hd.Ff (by omega)
 obtain⟨A,jA,hA⟩:∃A jA,Hd.ex n L d (Hd.up L i)=(A,jA):=⟨_,_,rfl⟩
 obtain⟨B,jB,hA2⟩:∃B jB,Hd.ex n L d jA=(B,jB):=⟨_,_,rfl⟩
 have oA:=Hd.Bh n L bg d (Hd.up L i) (by omega)
 rw [hA] at oA
 have hjA:jA≤k:=by have:=oA.1;simp only at this;omega
 have oB:=Hd.Bh n L bg d jA (by omega)
 rw [hA2] at oB
 have p3:(3:Nat) ^ d≤27:=by
  have:d=0∨d=1∨d=2∨d=3:=by omega
  rcases this with rfl | rfl | rfl | rfl <;> decide
 obtain⟨mA,sA,lA⟩:=sz A
 obtain⟨mB,sB,lB⟩:=sz B
 have hmA:mA≤432:=by have:=oA.2;simp only at this;omega
 have hmB:mB≤432:=by have:=oB.2;simp only at this;omega
 obtain⟨mN,sN,lN⟩:=sz (Hd.names n c2 n)
 have hmN:mN≤12:=by have:=Hd.bE n c2 n;omega
 have HA:=zH hA
 have HA2:=zH hA2
 have t0:¬(d:Int)+1≤0:=by omega
 have t1:decide ((d:Int)+1≤0)=false:=decide_eq_false t0
 have t2:(d:Int)+1 - 1=(d:Int):=by omega
 have aaH:c % 12=0∨c % 12=1∨c % 12=2∨c % 12=3∨c % 12=4∨c % 12=5∨c % 12=6∨c % 12=7∨c % 12=8∨c % 12=9∨c % 12=10∨c % 12=11:=by omega
 obtain⟨F,hF⟩:∃F,F=Hd.ex n L (d+1) i:=⟨_,rfl⟩
 have HF:=zH hF
 rw [←hF]
 clear oA oB lA lB lN hR hB hg ih hc TH hA hA2 p3 hF hkl
 rcases aaH with hr | hr | hr | hr | hr | hr | hr | hr | hr | hr | hr | hr
 ·have vE:Hid (F=(Hd.name n c,Hd.up L i)):=by
   show F=(Hd.name n c,Hd.up L i)
   rw [HF.out,Hd.ex,←HC.out,if_neg (by omega),if_neg (by omega),if_neg (by omega),if_neg (by omega),if_neg (by omega),if_neg (by omega),if_neg (by omega),if_neg (by omega)]
  have jP:(c:Int) % 12=0:=by omega
  clear hr
  go_enter Tryz.func38,Tryz.ntmps38
  go_wp2_with (first |(go_at_call 60;refine (bM g a k cap i L _ HR.out HB.out hi hk oD.out).mono ?_;rintro e w1 ⟨rfl,az,ho1⟩;rw [←HC.out];have HR1:=zH az;have HB1:Hid (Bw w1 a k L):=HB.out.rd ho1 oD.out;have bu:=zH ho1;clear az ho1) |(go_at_call 20;refine (fB n c _ hn bg xB).mono ?_;rintro e w2 ⟨rfl,ho2⟩))
  go_ret
  rw [vE.out]
  exact⟨rfl,HR1.out.only ho2 (fun h=>h),bu.out.trans (ho2.mono (fun _ h=>h.elim))⟩
 ·have vE:Hid (F=(Hd.name n c,Hd.up L i)):=by
   show F=(Hd.name n c,Hd.up L i)
   rw [HF.out,Hd.ex,←HC.out,if_neg (by omega),if_neg (by omega),if_neg (by omega),if_neg (by omega),if_neg (by omega),if_neg (by omega),if_neg (by omega),if_neg (by omega)]
  have jP:(c:Int) % 12=1:=by omega
  clear hr
  go_enter Tryz.func38,Tryz.ntmps38
  go_wp2_with (first |(go_at_call 60;refine (bM g a k cap i L _ HR.out HB.out hi hk oD.out).mono ?_;rintro e w1 ⟨rfl,az,ho1⟩;rw [←HC.out];have HR1:=zH az;have HB1:Hid (Bw w1 a k L):=HB.out.rd ho1 oD.out;have bu:=zH ho1;clear az ho1) |(go_at_call 20;refine (fB n c _ hn bg xB).mono ?_;rintro e w2 ⟨rfl,ho2⟩))
  go_ret
  rw [vE.out]
  exact⟨rfl,HR1.out.only ho2 (fun h=>h),bu.out.trans (ho2.mono (fun _ h=>h.elim))⟩
 ·have vE:Hid (F=(Hd.name n c,Hd.up L i)):=by
   show F=(Hd.name n c,Hd.up L i)
   rw [HF.out,Hd.ex,←HC.out,if_neg (by omega),if_neg (by omega),if_neg (by omega),if_neg (by omega),if_neg (by omega),if_neg (by omega),if_neg (by omega),if_neg (by omega)]
  have jP:(c:Int) % 12=2:=by omega
  clear hr
  go_enter Tryz.func38,Tryz.ntmps38
  go_wp2_with (first |(go_at_call 60;refine (bM g a k cap i L _ HR.out HB.out hi hk oD.out).mono ?_;rintro e w1 ⟨rfl,az,ho1⟩;rw [←HC.out];have HR1:=zH az;have HB1:Hid (Bw w1 a k L):=HB.out.rd ho1 oD.out;have bu:=zH ho1;clear az ho1) |(go_at_call 20;refine (fB n c _ hn bg xB).mono ?_;rintro e w2 ⟨rfl,ho2⟩))
  go_ret
  rw [vE.out]
  exact⟨rfl,HR1.out.only ho2 (fun h=>h),bu.out.trans (ho2.mono (fun _ h=>h.elim))⟩
 ·have vE:Hid (F=(Hd.name n c,Hd.up L i)):=by
   show F=(Hd.name n c,Hd.up L i)
   rw [HF.out,Hd.ex,←HC.out,if_neg (by omega),if_neg (by omega),if_neg (by omega),if_neg (by omega),if_neg (by omega),if_neg (by omega),if_neg (by omega),if_neg (by omega)]
  have jP:(c:Int) % 12=3:=by omega
  clear hr
  go_enter Tryz.func38,Tryz.ntmps38
  go_wp2_with (first |(go_at_call 60;refine (bM g a k cap i L _ HR.out HB.out hi hk oD.out).mono ?_;rintro e w1 ⟨rfl,az,ho1⟩;rw [←HC.out];have HR1:=zH az;have HB1:Hid (Bw w1 a k L):=HB.out.rd ho1 oD.out;have bu:=zH ho1;clear az ho1) |(go_at_call 20;refine (fB n c _ hn bg xB).mono ?_;rintro e w2 ⟨rfl,ho2⟩))
  go_ret
  rw [vE.out]
  exact⟨rfl,HR1.out.only ho2 (fun h=>h),bu.out.trans (ho2.mono (fun _ h=>h.elim))⟩
 ·have vE:Hid (F=([46],Hd.up L i)):=by
   show F=([46],Hd.up L i)
   rw [HF.out,Hd.ex,←HC.out,if_pos hr]
  have jP:(c:Int) % 12=4:=by omega
  clear hr
  go_enter Tryz.func38,Tryz.ntmps38
  go_wp2_with (first |(go_at_call 60;refine (bM g a k cap i L _ HR.out HB.out hi hk oD.out).mono ?_;rintro e w1 ⟨rfl,az,ho1⟩;rw [←HC.out];have HR1:=zH az;have HB1:Hid (Bw w1 a k L):=HB.out.rd ho1 oD.out;have bu:=zH ho1;clear az ho1))
  go_ret
  rw [vE.out]
  exact⟨rfl,HR1.out,bu.out⟩
 ·have vE:Hid (F=(Hd.cat (Hd.cat [91] (Hd.names n c2 n)) [93],Hd.up L (Hd.up L i))):=by
   show F=(Hd.cat (Hd.cat [91] (Hd.names n c2 n)) [93],Hd.up L (Hd.up L i))
   rw [HF.out,Hd.ex,←HC.out,if_neg (by omega),if_pos hr,←TC.out]
  have jP:(c:Int) % 12=5:=by omega
  clear hr
  have e1:(⟨#[91]⟩:ByteArray)++bs (Hd.names n c2 n)=bs (Hd.cat [91] (Hd.names n c2 n)):=DL _ _
  have s1:(bs (Hd.cat [91] (Hd.names n c2 n))).size=1+mN:=iQ (bf _) sN
  have e2:bs (Hd.cat [91] (Hd.names n c2 n))++(⟨#[93]⟩:ByteArray)=bs (Hd.cat (Hd.cat [91] (Hd.names n c2 n)) [93]):=jG _ _
  go_enter Tryz.func38,Tryz.ntmps38
  go_wp2_with (first |(go_at_call 60;have hgd:=HR1.out;clear hgd;refine (bM g a k cap _ L _ HR1.out HB1.out hup hk oD.out).mono ?_;rintro e w2 ⟨rfl,hR2,ho2⟩;rw [←TC.out];have HR2:=zH hR2;have aK:Hid (Only (·=g) w w2):=bu.out.trans ho2;clear hR2 ho2) |(go_at_call 60;refine (bM g a k cap i L _ HR.out HB.out hi hk oD.out).mono ?_;rintro e w1 ⟨rfl,az,ho1⟩;rw [←HC.out];have HR1:=zH az;have HB1:Hid (Bw w1 a k L):=HB.out.rd ho1 oD.out;have bu:=zH ho1;clear az ho1) |(go_at_call 19;refine (gY n c2 _ hn bg hc2).mono ?_;rintro e w3 ⟨rfl,ho3⟩))
  go_ret
  rw [vE.out]
  exact⟨rfl,HR2.out.only ho3 (fun h=>h),aK.out.trans (ho3.mono (fun _ h=>h.elim))⟩
 ·have vE:Hid (F=(Hd.cat (Hd.cat [91,94] (Hd.names n c2 n)) [93],Hd.up L (Hd.up L i))):=by
   show F=(Hd.cat (Hd.cat [91,94] (Hd.names n c2 n)) [93],Hd.up L (Hd.up L i))
   rw [HF.out,Hd.ex,←HC.out,if_neg (by omega),if_neg (by omega),if_pos hr,←TC.out]
  have jP:(c:Int) % 12=6:=by omega
  clear hr
  have e1:(⟨#[91,94]⟩:ByteArray)++bs (Hd.names n c2 n)=bs (Hd.cat [91,94] (Hd.names n c2 n)):=DL _ _
  have s1:(bs (Hd.cat [91,94] (Hd.names n c2 n))).size=2+mN:=iQ (bf _) sN
  have e2:bs (Hd.cat [91,94] (Hd.names n c2 n))++(⟨#[93]⟩:ByteArray)=bs (Hd.cat (Hd.cat [91,94] (Hd.names n c2 n)) [93]):=jG _ _
  go_enter Tryz.func38,Tryz.ntmps38
  go_wp2_with (first |(go_at_call 60;have hgd:=HR1.out;clear hgd;refine (bM g a k cap _ L _ HR1.out HB1.out hup hk oD.out).mono ?_;rintro e w2 ⟨rfl,hR2,ho2⟩;rw [←TC.out];have HR2:=zH hR2;have aK:Hid (Only (·=g) w w2):=bu.out.trans ho2;clear hR2 ho2) |(go_at_call 60;refine (bM g a k cap i L _ HR.out HB.out hi hk oD.out).mono ?_;rintro e w1 ⟨rfl,az,ho1⟩;rw [←HC.out];have HR1:=zH az;have HB1:Hid (Bw w1 a k L):=HB.out.rd ho1 oD.out;have bu:=zH ho1;clear az ho1) |(go_at_call 19;refine (gY n c2 _ hn bg hc2).mono ?_;rintro e w3 ⟨rfl,ho3⟩))
  go_ret
  rw [vE.out]
  exact⟨rfl,HR2.out.only ho3 (fun h=>h),aK.out.trans (ho3.mono (fun _ h=>h.elim))⟩
 ·have vE:Hid (F=(Hd.cat (Hd.cat [40] A) [41,42],jA)):=by
   show F=(Hd.cat (Hd.cat [40] A) [41,42],jA)
   rw [HF.out,Hd.ex,←HC.out,if_neg (by omega),if_neg (by omega),if_neg (by omega),if_pos hr]
   first | done | simp only [HA.out,HA2.out]
  have jP:(c:Int) % 12=7:=by omega
  clear hr
  have e1:(⟨#[40]⟩:ByteArray)++bs A=bs (Hd.cat [40] A):=DL _ _
  have s1:(bs (Hd.cat [40] A)).size=1+mA:=iQ (bf _) sA
  have e2:bs (Hd.cat [40] A)++(⟨#[41,42]⟩:ByteArray)=bs (Hd.cat (Hd.cat [40] A) [41,42]):=jG _ _
  go_enter Tryz.func38,Tryz.ntmps38
  go_wp2_with (first |(go_at_call 38;have hx:=Xp.out (Hd.up L i) _ HR1.out HB1.out hup;rw [HA.out] at hx;refine hx.mono ?_;clear hx;rintro e w2 ⟨rfl,hR2,ho2⟩;have HR2:=zH hR2;have HB2:Hid (Bw w2 a k L):=HB1.out.rd ho2 oD.out;have aK:Hid (Only (·=g) w w2):=bu.out.trans ho2;clear hR2 ho2) |(go_at_call 60;refine (bM g a k cap i L _ HR.out HB.out hi hk oD.out).mono ?_;rintro e w1 ⟨rfl,az,ho1⟩;rw [←HC.out];have HR1:=zH az;have HB1:Hid (Bw w1 a k L):=HB.out.rd ho1 oD.out;have bu:=zH ho1;clear az ho1))
  go_ret
  rw [vE.out]
  exact⟨rfl,HR2.out,aK.out⟩
 ·have vE:Hid (F=(Hd.cat (Hd.cat [40] A) [41,43],jA)):=by
   show F=(Hd.cat (Hd.cat [40] A) [41,43],jA)
   rw [HF.out,Hd.ex,←HC.out,if_neg (by omega),if_neg (by omega),if_neg (by omega),if_neg (by omega),if_pos hr]
   first | done | simp only [HA.out,HA2.out]
  have jP:(c:Int) % 12=8:=by omega
  clear hr
  have e1:(⟨#[40]⟩:ByteArray)++bs A=bs (Hd.cat [40] A):=DL _ _
  have s1:(bs (Hd.cat [40] A)).size=1+mA:=iQ (bf _) sA
  have e2:bs (Hd.cat [40] A)++(⟨#[41,43]⟩:ByteArray)=bs (Hd.cat (Hd.cat [40] A) [41,43]):=jG _ _
  go_enter Tryz.func38,Tryz.ntmps38
  go_wp2_with (first |(go_at_call 38;have hx:=Xp.out (Hd.up L i) _ HR1.out HB1.out hup;rw [HA.out] at hx;refine hx.mono ?_;clear hx;rintro e w2 ⟨rfl,hR2,ho2⟩;have HR2:=zH hR2;have HB2:Hid (Bw w2 a k L):=HB1.out.rd ho2 oD.out;have aK:Hid (Only (·=g) w w2):=bu.out.trans ho2;clear hR2 ho2) |(go_at_call 60;refine (bM g a k cap i L _ HR.out HB.out hi hk oD.out).mono ?_;rintro e w1 ⟨rfl,az,ho1⟩;rw [←HC.out];have HR1:=zH az;have HB1:Hid (Bw w1 a k L):=HB.out.rd ho1 oD.out;have bu:=zH ho1;clear az ho1))
  go_ret
  rw [vE.out]
  exact⟨rfl,HR2.out,aK.out⟩
 ·have vE:Hid (F=(Hd.cat (Hd.cat [40] A) [41,63],jA)):=by
   show F=(Hd.cat (Hd.cat [40] A) [41,63],jA)
   rw [HF.out,Hd.ex,←HC.out,if_neg (by omega),if_neg (by omega),if_neg (by omega),if_neg (by omega),if_neg (by omega),if_pos hr]
   first | done | simp only [HA.out,HA2.out]
  have jP:(c:Int) % 12=9:=by omega
  clear hr
  have e1:(⟨#[40]⟩:ByteArray)++bs A=bs (Hd.cat [40] A):=DL _ _
  have s1:(bs (Hd.cat [40] A)).size=1+mA:=iQ (bf _) sA
  have e2:bs (Hd.cat [40] A)++(⟨#[41,63]⟩:ByteArray)=bs (Hd.cat (Hd.cat [40] A) [41,63]):=jG _ _
  go_enter Tryz.func38,Tryz.ntmps38
  go_wp2_with (first |(go_at_call 38;have hx:=Xp.out (Hd.up L i) _ HR1.out HB1.out hup;rw [HA.out] at hx;refine hx.mono ?_;clear hx;rintro e w2 ⟨rfl,hR2,ho2⟩;have HR2:=zH hR2;have HB2:Hid (Bw w2 a k L):=HB1.out.rd ho2 oD.out;have aK:Hid (Only (·=g) w w2):=bu.out.trans ho2;clear hR2 ho2) |(go_at_call 60;refine (bM g a k cap i L _ HR.out HB.out hi hk oD.out).mono ?_;rintro e w1 ⟨rfl,az,ho1⟩;rw [←HC.out];have HR1:=zH az;have HB1:Hid (Bw w1 a k L):=HB.out.rd ho1 oD.out;have bu:=zH ho1;clear az ho1))
  go_ret
  rw [vE.out]
  exact⟨rfl,HR2.out,aK.out⟩
 focus
  have vE:Hid (F=(Hd.cat (Hd.cat (Hd.cat (Hd.cat [40] A) [124]) B) [41],jB)):=by
   show F=(Hd.cat (Hd.cat (Hd.cat (Hd.cat [40] A) [124]) B) [41],jB)
   rw [HF.out,Hd.ex,←HC.out,if_neg (by omega),if_neg (by omega),if_neg (by omega),if_neg (by omega),if_neg (by omega),if_neg (by omega),if_pos hr]
   first | done | simp only [HA.out,HA2.out]
  have jP:(c:Int) % 12=10:=by omega
  clear hr
  have e1:(⟨#[40]⟩:ByteArray)++bs A=bs (Hd.cat [40] A):=DL _ _
  have s1:(bs (Hd.cat [40] A)).size=1+mA:=iQ (bf _) sA
  have e2:bs (Hd.cat [40] A)++(⟨#[124]⟩:ByteArray)=bs (Hd.cat (Hd.cat [40] A) [124]):=jG _ _
  have s2:(bs (Hd.cat (Hd.cat [40] A) [124])).size=1+mA+1:=iQ s1 (bf _)
  have e3:bs (Hd.cat (Hd.cat [40] A) [124])++bs B=bs (Hd.cat (Hd.cat (Hd.cat [40] A) [124]) B):=ek _ _
  have s3:(bs (Hd.cat (Hd.cat (Hd.cat [40] A) [124]) B)).size=1+mA+1+mB:=iQ s2 sB
  have e4:bs (Hd.cat (Hd.cat (Hd.cat [40] A) [124]) B)++(⟨#[41]⟩:ByteArray)=bs (Hd.cat (Hd.cat (Hd.cat (Hd.cat [40] A) [124]) B) [41]):=jG _ _
 rotate_left
 focus
  have vE:Hid (F=(Hd.cat (Hd.cat A [32]) B,jB)):=by
   show F=(Hd.cat (Hd.cat A [32]) B,jB)
   rw [HF.out,Hd.ex,←HC.out,if_neg (by omega),if_neg (by omega),if_neg (by omega),if_neg (by omega),if_neg (by omega),if_neg (by omega),if_neg (by omega),if_pos hr]
   first | done | simp only [HA.out,HA2.out]
  have jP:(c:Int) % 12=11:=by omega
  clear hr
  have e1:bs A++(⟨#[32]⟩:ByteArray)=bs (Hd.cat A [32]):=jG _ _
  have s1:(bs (Hd.cat A [32])).size=mA+1:=iQ sA (bf _)
  have e2:bs (Hd.cat A [32])++bs B=bs (Hd.cat (Hd.cat A [32]) B):=ek _ _
 rotate_left
 all_goals
  go_enter Tryz.func38,Tryz.ntmps38
  go_wp2_with (first |(go_at_call 38;have hgd:=HR2.out;clear hgd;have hx:=Xp.out jA _ HR2.out HB2.out hjA;rw [HA2.out] at hx;refine hx.mono ?_;clear hx;rintro e w3 ⟨rfl,cz,ho3⟩;have HR3:=zH cz;have fK:Hid (Only (·=g) w w3):=aK.out.trans ho3;clear cz ho3) |(go_at_call 38;have hx:=Xp.out (Hd.up L i) _ HR1.out HB1.out hup;rw [HA.out] at hx;refine hx.mono ?_;clear hx;rintro e w2 ⟨rfl,hR2,ho2⟩;have HR2:=zH hR2;have HB2:Hid (Bw w2 a k L):=HB1.out.rd ho2 oD.out;have aK:Hid (Only (·=g) w w2):=bu.out.trans ho2;clear hR2 ho2) |(go_at_call 60;refine (bM g a k cap i L _ HR.out HB.out hi hk oD.out).mono ?_;rintro e w1 ⟨rfl,az,ho1⟩;rw [←HC.out];have HR1:=zH az;have HB1:Hid (Bw w1 a k L):=HB.out.rd ho1 oD.out;have bu:=zH ho1;clear az ho1))
  go_ret
  rw [vE.out]
  exact⟨rfl,HR3.out,fK.out⟩
theorem LM (n g:Nat) (a:Option Addr) (k cap:Nat) (L:List Nat) (hn:1≤n) (bg:n≤6) (hk:k≤30) (hg:Xo g a):OT n g a k cap L 3:=
 yU n g a k cap L 2 hn bg hk hg (by omega) (yU n g a k cap L 1 hn bg hk hg (by omega) (yU n g a k cap L 0 hn bg hk hg (by omega) (OU n g a k cap L hn bg hk hg)))
end Go.Proofs.YtdlabakleldgaaaGreatDoor
namespace Go.Proofs.YtdlabakleldgaaaGreatDoor
open Go.RowKit Go.Maps
namespace Hd
def expr (n:Nat) (L:List Nat):Str:=if L.length=0 then [] else (ex n (L.take 30) 3 0).1
end Hd
theorem Bw.take {w:World} {a:Option Addr} {n:Nat} {L:List Nat} (h:Bw w a n L) (m:Nat) (hm:m≤n):Bw w a m (L.take m):=by
 obtain⟨hl,b,off,h1,h2⟩:=h
 refine⟨by rw [List.length_take];omega,b,off,fun h0=>h1 (by omega),fun j x hj=>?_⟩
 rw [List.getElem?_take] at hj
 split at hj
 ·exact h2 j x hj
 ·cases hj
end Go.Proofs.YtdlabakleldgaaaGreatDoor
