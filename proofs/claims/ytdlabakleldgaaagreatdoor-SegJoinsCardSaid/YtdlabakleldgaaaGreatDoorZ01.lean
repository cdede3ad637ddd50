/- Leaf2 Read Sets -/
import Derived.Test.YtdlabakleldgaaaGreatDoorZ00
import Derived.Deep.RegionHeld3
import Derived.Deep.RegionWith
import Derived.BigRegion
import Derived.Below
import Derived.Deep.CutRange
import Derived.BigQuiet
import Derived.Deep.QuietTactic
set_option linter.unusedVariables false
set_option linter.unusedSimpArgs false
set_option maxRecDepth 100000
set_option maxHeartbeats 8000000
namespace Go.Proofs.YtdlabakleldgaaaGreatDoor
open Go.RowKit
theorem rM (s:ByteArray) (w:World) (hs:s.size < 4294967296):Calls Tryz.prog 72 #[.string s] w fun e w'=>e=.returned (.int .i64 (Rl.jR s.data.toList:Nat))∧w'=w:=by
 go_enter Tryz.func72,Tryz.ntmps72
 go_wp2_with fail
 go_loopw [3] (fun i wr=>∃(k:Nat),k≤s.size∧i=.int .i64 (k:Int)∧Hid (Rl.jR s.data.toList=k+Rl.jR (s.data.toList.drop k))∧w=wr) (fun i _=>s.size -(intOf i).toNat)
 case atStart=>exact⟨0,Nat.zero_le _,rfl,(by simp:Rl.jR s.data.toList=0+Rl.jR (s.data.toList.drop 0)),rfl⟩
 case round=>
  obtain⟨k,hk,rfl,hB,rfl⟩:=hrel
  by_cases hlt:k < s.size
  ·have t1:(k:Int) <(s.size:Int):=by omega
   have hd:Hid (s.data.toList.drop k=s[k]::s.data.toList.drop (k+1)):=qI hlt
   by_cases hc:Rl.sw s[k]=true
   ·have hc':=zH hc
    go_wp2_with (go_at_call 91;refine (ku s[k] _).mono ?_;rintro e w' ⟨rfl,rfl⟩)
    go_roundw
    case rel=>exact⟨k+1,by omega,by go_num,(by have:=hB.out;rw [hd.out,Rl.iU,if_pos hc'.out] at this;omega:Rl.jR s.data.toList=(k+1)+Rl.jR (s.data.toList.drop (k+1))),(by first | rfl | trivial)⟩
    case measure=>simp [intOf];omega
   ·have hc2:Rl.sw s[k]=false:=by simpa using hc
    have hc':=zH hc2
    clear hc
    go_wp2_with (go_at_call 91;refine (ku s[k] _).mono ?_;rintro e w' ⟨rfl,rfl⟩)
    go_ret
    refine⟨?_,rfl⟩
    have:=hB.out
    rw [hd.out,Rl.iU,if_neg (by rw [hc'.out];simp)] at this
    rw [this];rfl
  ·have t1:¬(k:Int) <(s.size:Int):=by omega
   have t2:decide ((k:Int) <(s.size:Int))=false:=decide_eq_false t1
   go_wp2_with fail
   go_ret
   refine⟨?_,rfl⟩
   have:=hB.out
   rw [List.drop_of_length_le (by rw [←Lib.size_eq];omega)] at this
   rw [this];rfl
theorem BU (s:ByteArray) (w:World) (hs:s.size < 4294967296):Calls Tryz.prog 71 #[.string s] w fun e w'=>e=.returned (.int .i64 (Rl.blk false s.data.toList:Nat))∧w'=w:=by
 go_enter Tryz.func71,Tryz.ntmps71
 go_wp2_with fail
 go_loopw [3,4] (fun i r wr=>∃(k:Nat) (b:Bool),k≤s.size∧i=.int .i64 (k:Int)∧r=.bool b∧Hid (Rl.blk false s.data.toList=k+Rl.blk b (s.data.toList.drop k))∧w=wr) (fun i _ _=>s.size -(intOf i).toNat)
 case atStart=>exact⟨0,false,Nat.zero_le _,rfl,rfl,(by simp:Rl.blk false s.data.toList=0+Rl.blk false (s.data.toList.drop 0)),rfl⟩
 case round=>
  obtain⟨k,b,hk,rfl,rfl,hB,rfl⟩:=hrel
  by_cases hlt:k < s.size
  ·have t1:(k:Int) <(s.size:Int):=by omega
   have hd:=qI hlt
   have hE:Hid (Rl.blk false s.data.toList=k+(if s[k].toNat=10 then 1+Rl.blk false (s.data.toList.drop (k+1)) else if b=true∨s[k].toNat=32∨s[k].toNat=9∨s[k].toNat=13 then 1+Rl.blk b (s.data.toList.drop (k+1)) else if s[k].toNat=35 then 1+Rl.blk true (s.data.toList.drop (k+1)) else 0)):=by
    have:=hB.out
    rw [hd,Rl.j5] at this
    exact this
   clear hd hB
   obtain⟨c,hc⟩:∃c:Nat,c=s[k].toNat:=⟨_,rfl⟩
   have HC:=zH hc
   rw [←hc] at hE
   by_cases c10:c=10
   ·have XD:((s[k].toNat:Int)==10)=true:=by rw [←hc];simp;omega
    clear hc
    go_wp2
    exact⟨⟨k+1,false,by omega,by go_num,rfl,(by have hh:=hE.out;rw [if_pos c10] at hh;omega:Rl.blk false s.data.toList=(k+1)+Rl.blk false (s.data.toList.drop (k+1))),(by first | rfl | trivial)⟩,by simp [intOf];omega⟩
   ·have XD:((s[k].toNat:Int)==10)=false:=by rw [←hc];simp;omega
    by_cases cb:b=true∨c=32∨c=9∨c=13
    ·have hh:Hid (Rl.blk false s.data.toList=(k+1)+Rl.blk b (s.data.toList.drop (k+1))):=(by have hh:=hE.out;rw [if_neg c10,if_pos cb] at hh;omega:Rl.blk false s.data.toList=(k+1)+Rl.blk b (s.data.toList.drop (k+1)))
     rcases cb with rfl | e | e | e
     ·clear hc
      go_wp2
      exact⟨⟨k+1,true,by omega,by go_num,rfl,hh,(by first | rfl | trivial)⟩,by simp [intOf];omega⟩
     all_goals
      cases b
      ·go_wp2
       all_goals first | exact⟨⟨k+1,false,by omega,by go_num,rfl,hh,(by first | rfl | trivial)⟩,by simp [intOf];omega⟩ |(exfalso;have h':=HC.out;simp_all <;> omega)
      ·go_wp2
       exact⟨⟨k+1,true,by omega,by go_num,rfl,hh,(by first | rfl | trivial)⟩,by simp [intOf];omega⟩
    ·have hh:Hid (Rl.blk false s.data.toList=k+(if c=35 then 1+Rl.blk true (s.data.toList.drop (k+1)) else 0)):=(by have hh:=hE.out;rw [if_neg c10,if_neg cb] at hh;exact hh:Rl.blk false s.data.toList=k+(if c=35 then 1+Rl.blk true (s.data.toList.drop (k+1)) else 0))
     simp only [not_or,Bool.not_eq_true] at cb
     obtain⟨rfl,e1,e2,e3⟩:=cb
     have q1:((s[k].toNat:Int)==32)=false:=by rw [←hc];simp;omega
     have q2:((s[k].toNat:Int)==9)=false:=by rw [←hc];simp;omega
     have q3:((s[k].toNat:Int)==13)=false:=by rw [←hc];simp;omega
     by_cases QC:c=35
     ·have q4:((s[k].toNat:Int)==35)=true:=by rw [←hc];simp;omega
      clear hc
      go_wp2
      exact⟨⟨k+1,true,by omega,by go_num,rfl,(by have hh:=hh.out;rw [if_pos QC] at hh;omega:Rl.blk false s.data.toList=(k+1)+Rl.blk true (s.data.toList.drop (k+1))),(by first | rfl | trivial)⟩,by simp [intOf];omega⟩
     ·have q4:((s[k].toNat:Int)==35)=false:=by rw [←hc];simp;omega
      clear hc
      go_wp2
      go_ret
      refine⟨?_,rfl⟩
      have hh:=hh.out
      rw [if_neg QC] at hh
      rw [hh];rfl
  ·have t1:¬(k:Int) <(s.size:Int):=by omega
   have t2:decide ((k:Int) <(s.size:Int))=false:=decide_eq_false t1
   go_wp2_with fail
   go_ret
   refine⟨?_,rfl⟩
   have:=hB.out
   rw [List.drop_of_length_le (by rw [←Lib.size_eq];omega)] at this
   rw [this];rfl
structure Only (S:Nat→Prop) (w w':World):Prop where
 os:w'.os=w.os
 tape:w'.tape=w.tape
 output:w'.output=w.output
 size:w.heap.size≤w'.heap.size
 block:∀g,g < w.heap.size→¬ S g→w'.heap[g]?=w.heap[g]?
theorem Only.refl (S:Nat→Prop) (w:World):Only S w w:=⟨rfl,rfl,rfl,Nat.le_refl _,fun _ _ _=>rfl⟩
theorem Only.trans {S:Nat→Prop} {a b c:World} (h:Only S a b) (k:Only S b c):Only S a c:=
 ⟨k.os.trans h.os,k.tape.trans h.tape,k.output.trans h.output,Nat.le_trans h.size k.size,fun g hg hS=>(k.block g (Nat.lt_of_lt_of_le hg h.size) hS).trans (h.block g hg hS)⟩
theorem Only.alloc {S:Nat→Prop} {a w:World} (h:Only S a w) (o:Obj):Only S a (w.alloc o):=
 h.trans ⟨rfl,rfl,rfl,by simp,fun g hg _=>Below.heap_alloc _ _ _ hg⟩
theorem Only.setCell {S:Nat→Prop} {a w:World} (h:Only S a w) {p:Addr} (hp:S p.block) (u:Value):Only S a (w.setCell p u):=
 h.trans ⟨rfl,rfl,rfl,by simp [World.setCell],fun g hg hS=>Below.heap_setCell _ _ _ _ (fun e=>hS (e ▸ hp))⟩
theorem Only.aS {S:Nat→Prop} {a w:World} (h:Only S a w) {p:Addr} (hp:a.heap.size≤p.block) (u:Value):Only S a (w.setCell p u):=
 ⟨h.os,h.tape,h.output,by simp [World.setCell];exact h.size,fun g hg hS=>(Below.heap_setCell _ _ _ _ (fun e=>by omega)).trans (h.block g hg hS)⟩
theorem Only.grown {S:Nat→Prop} {a w w':World} {row:Option Nat} (h:Only S a w) (hg:w.grownBy w' row) (hr:∀k,row=some k→S k):Only S a w':=
 h.trans ⟨hg.os,hg.tape,hg.output,hg.size,fun g hgl hS=>hg.block g hgl (fun e=>hS (hr g e.symm))⟩
theorem Only.drew {S:Nat→Prop} {a w:World} (h:Only S a w):Only S a w.drew:=⟨h.os,h.tape,h.output,h.size,h.block⟩
theorem Only.drewN {S:Nat→Prop} {a w:World} (h:Only S a w) (n:Nat):Only S a (w.drewN n):=⟨h.os,h.tape,h.output,h.size,h.block⟩
theorem Only.below {S:Nat→Prop} {a w:World} {B:Nat} (h:Only S a w) (hB:B≤a.heap.size) (hS:∀g,S g→B≤g):Below B a w:=
 ⟨h.os,h.tape,h.output,h.size,fun g hg=>h.block g (by omega) (fun hs=>by have:=hS g hs;omega)⟩
theorem Only.mono {S S':Nat→Prop} {a w:World} (h:Only S a w) (hS:∀g,S g→S' g):Only S' a w:=⟨h.os,h.tape,h.output,h.size,fun g hg hn=>h.block g hg (fun hs=>hn (hS g hs))⟩
def bs (l:Rl.Str):ByteArray:=⟨l.toArray⟩
theorem xM (l:Rl.Str):(bs l).data.toList=l:=rfl
structure Rd where
 vC:Value
 j:Int
 a:Int
 vT:Value
 vL:Value
 mb:Nat
 pl:Int
 op:Int
def Mw (S:ByteArray) (i:Int) (x:Rd):Array Value:=#[.string S,.int .i64 i,x.vC,.int .u32 x.j,.int .u32 x.a,x.vT,x.vL,.map (some x.mb),.int .i64 x.pl,.int .i64 x.op]
def bY (w:World) (rb:Nat) (S:ByteArray) (i:Int) (x:Rd):Prop:=w.heap[rb]?=some (.cells (Mw S i x) 82 (0,0))
def BV (c i:Nat):List PanicEntry:=[{ v:=.iface 49 (.agg #[.int .i64 (c:Int),.int .i64 (i:Int)]),recovered:=false}]
def jN (t:Rl.Tk):Ending:=if t.bad=true then .panicked (BV 20 t.at') else .returned (.agg #[.string (bs t.text),.int .i64 (t.at':Int)])
theorem bR (c i:Nat) (w:World):Calls Tryz.prog 53 #[.int .i64 (c:Int),.int .i64 (i:Int)] w fun e w'=>e=.panicked (BV c i)∧w'=w:=by
 go_enter Tryz.func53,Tryz.ntmps53
 go_wp2
 exact⟨rfl,rfl,rfl⟩
theorem cell_of_row (w:World) (b i:Nat) (cs:Array Value) (t:TypeId) (z:Nat × Nat) (h:w.heap[b]?=some (.cells cs t z)):w.cell? ⟨b,i,none⟩=cs[i]?:=by
 simp [World.cell?,h]
theorem bY.cell {w:World} {rb:Nat} {S:ByteArray} {i:Int} {x:Rd} (h:bY w rb S i x) (k:Nat) {v:Value} (hv:(Mw S i x)[k]?=some v):w.cell? ⟨rb,k,none⟩=some v:=(cell_of_row _ _ _ _ _ _ h).trans hv
theorem bY.lt {w:World} {rb:Nat} {S:ByteArray} {i:Int} {x:Rd} (h:bY w rb S i x):rb < w.heap.size:=(Array.getElem?_eq_some_iff.1 h).1
theorem bY.c0 {w:World} {rb:Nat} {S:ByteArray} {i:Int} {x:Rd} (h:bY w rb S i x):w.cell? ⟨rb,0,none⟩=some (.string S):=h.cell 0 rfl
theorem bY.c1 {w:World} {rb:Nat} {S:ByteArray} {i:Int} {x:Rd} (h:bY w rb S i x):w.cell? ⟨rb,1,none⟩=some (.int .i64 i):=h.cell 1 rfl
theorem bY.c2 {w:World} {rb:Nat} {S:ByteArray} {i:Int} {x:Rd} (h:bY w rb S i x):w.cell? ⟨rb,2,none⟩=some (x.vC):=h.cell 2 rfl
theorem bY.c3 {w:World} {rb:Nat} {S:ByteArray} {i:Int} {x:Rd} (h:bY w rb S i x):w.cell? ⟨rb,3,none⟩=some (.int .u32 x.j):=h.cell 3 rfl
theorem bY.c4 {w:World} {rb:Nat} {S:ByteArray} {i:Int} {x:Rd} (h:bY w rb S i x):w.cell? ⟨rb,4,none⟩=some (.int .u32 x.a):=h.cell 4 rfl
theorem bY.c5 {w:World} {rb:Nat} {S:ByteArray} {i:Int} {x:Rd} (h:bY w rb S i x):w.cell? ⟨rb,5,none⟩=some (x.vT):=h.cell 5 rfl
theorem bY.c6 {w:World} {rb:Nat} {S:ByteArray} {i:Int} {x:Rd} (h:bY w rb S i x):w.cell? ⟨rb,6,none⟩=some (x.vL):=h.cell 6 rfl
theorem bY.c7 {w:World} {rb:Nat} {S:ByteArray} {i:Int} {x:Rd} (h:bY w rb S i x):w.cell? ⟨rb,7,none⟩=some (.map (some x.mb)):=h.cell 7 rfl
theorem bY.c8 {w:World} {rb:Nat} {S:ByteArray} {i:Int} {x:Rd} (h:bY w rb S i x):w.cell? ⟨rb,8,none⟩=some (.int .i64 x.pl):=h.cell 8 rfl
theorem bY.c9 {w:World} {rb:Nat} {S:ByteArray} {i:Int} {x:Rd} (h:bY w rb S i x):w.cell? ⟨rb,9,none⟩=some (.int .i64 x.op):=h.cell 9 rfl
theorem bY.fz {w:World} {rb:Nat} {S:ByteArray} {i:Int} {x:Rd} (h:bY w rb S i x) (k:Nat):w.frozen? ⟨rb,k,none⟩=false:=by simp [World.frozen?,show w.heap[rb]?=_ from h]
theorem bY.only {w w':World} {rb:Nat} {S:ByteArray} {i:Int} {x:Rd} {P:Nat→Prop} (h:bY w rb S i x) (ho:Only P w w') (hn:¬ P rb):bY w' rb S i x:=(ho.block rb h.lt hn).trans h
theorem aa {w:World} {b k:Nat} {cs:Array Value} {t:TypeId} {z:Nat × Nat} (h:w.heap[b]?=some (.cells cs t z)) (v:Value):(w.setCell ⟨b,k,none⟩ v).heap[b]?=some (.cells (cs.setIfInBounds k v) t z):=by
 obtain⟨hb,e⟩:=Array.getElem?_eq_some_iff.1 h
 simp [World.setCell,hb,Array.getElem_modify,e]
theorem bY.set1 {w:World} {rb:Nat} {S:ByteArray} {i:Int} {x:Rd} (h:bY w rb S i x) (i':Int):bY (w.setCell ⟨rb,1,none⟩ (.int .i64 i')) rb S i' x:=aa h _
theorem bY.alloc {w:World} {rb:Nat} {S:ByteArray} {i:Int} {x:Rd} (h:bY w rb S i x) (o:Obj):bY (w.alloc o) rb S i x:=(Below.heap_alloc _ _ _ h.lt).trans h
theorem BX (s:ByteArray) (c:Int) (w:World):(callFunc 112 #[.string s,.int .u8 c]).run Tryz.prog w=.ok (.value (.int .i64 (Lib.indexByte s.data.toList c.toNat.toUInt8))) w:=by
 rw [run_callFunc_extern Tryz.func112 (by kernel_rfl) (by kernel_rfl) (by kernel_rfl) (e:=Extern.BytealgIndexByte.indexByte) (by kernel_rfl),Lib.run_indexByteString]
 rfl
theorem vH (s:ByteArray) (c:UInt8) (w:World):Calls Tryz.prog 73 #[.string s,.int .u8 (c.toNat:Int)] w fun e w'=>e=.returned (.int .i64 (Lib.indexByte s.data.toList c))∧w'=w:=by
 have XE:=BX s (c.toNat:Int)
 have hc:(c.toNat:Int).toNat.toUInt8=c:=by simp
 rw [hc] at XE
 go_enter Tryz.func73,Tryz.ntmps73
 go_wp2
 go_ret
 exact⟨rfl,rfl⟩
theorem mQ:∀(l:List UInt8) (c:UInt8),(0≤Lib.indexByte l c)↔l.contains c=true
 | [],c=>by simp [Lib.indexByte]
 | b::l,c=>by
  have ih:=mQ l c
  have hge:=Lib.indexByte_ge l c
  unfold Lib.indexByte
  rw [List.contains_cons]
  by_cases e:b=c
  ·subst e;simp
  ·have e1:(b==c)=false:=by simpa using e
   have e2:(c==b)=false:=by simpa using fun h:c=b=>e h.symm
   rw [e1,e2,Bool.false_or,if_neg (by simp),←ih]
   by_cases e3:Lib.indexByte l c=-1
   ·rw [e3];simp
   ·rw [if_neg (by simpa using e3)];omega
theorem ji (r:ByteArray) (n:Nat):r.extract 0 n=bs (r.data.toList.take n):=by
 rw [Lib.extract_eq];simp [bs]
theorem bY.setOther {w:World} {rb:Nat} {S:ByteArray} {i:Int} {x:Rd} (h:bY w rb S i x) {p:Addr} (hp:p.block≠rb) (v:Value):bY (w.setCell p v) rb S i x:=(Below.heap_setCell _ _ _ _ (fun e=>hp e.symm)).trans h
theorem bY.drewN {w:World} {rb:Nat} {S:ByteArray} {i:Int} {x:Rd} (h:bY w rb S i x) (n:Nat):bY (w.drewN n) rb S i x:=h
theorem bY.drew {w:World} {rb:Nat} {S:ByteArray} {i:Int} {x:Rd} (h:bY w rb S i x):bY w.drew rb S i x:=h
end Go.Proofs.YtdlabakleldgaaaGreatDoor
namespace Go.Proofs.YtdlabakleldgaaaGreatDoor
open Go.RowKit Go.Maps
def sC (S:Nat):Array Value:=#[.int .u64 (wd S 0:Int),.int .u64 (wd S 1:Int),.int .u64 (wd S 2:Int),.int .u64 (wd S 3:Int)]
def sV (S:Nat):Value:=.agg (sC S)
theorem and1 {S q r i:Nat} (h:wd S q / 2 ^ r % 2=if S.testBit i=true then 1 else 0):(bits .and .u64 ((wd S q:Int) / 2 ^ r) 1==1)=S.testBit i:=by
 have e:((wd S q:Int) / 2 ^ r)=((wd S q / 2 ^ r:Nat):Int):=by push_cast;rfl
 have hl:wd S q / 2 ^ r < 18446744073709551616:=Nat.lt_of_le_of_lt (Nat.div_le_self _ _) (mP S q)
 rw [e,show (1:Int)=((1:Nat):Int) from rfl,u64_and_nat _ _ hl (by decide),nat_mask1,h]
 cases S.testBit i <;> rfl
theorem sU (S i:Nat) (hi:i < 256) (w:World):Calls Tryz.prog 104 #[sV S,.int .i64 (i:Int)] w fun e w'=>e=.returned (.bool (S.testBit i))∧Only (fun _=>False) w w':=by
 obtain⟨q,r,hq,hr,rfl⟩:∃q r,q < 4∧r < 64∧i=64*q+r:=⟨i / 64,i % 64,by omega,by omega,by omega⟩
 obtain⟨i,hii⟩:∃i:Nat,i=64*q+r:=⟨_,rfl⟩
 have hb:=QB S q r hr
 rw [←hii] at hb ⊢
 have hm:(i:Int) % 64=(r:Int):=by omega
 have hd:(i:Int) / 64=(q:Int):=by omega
 have hl:(i:Int) < 256:=by omega
 have HB:Hid ((bits .and .u64 ((wd S q:Int) / 2 ^ r) 1==1)=S.testBit i):=and1 hb
 clear hii hi hb
 unfold sV sC
 have w0:=mP S 0
 have w1:=mP S 1
 have w2:=mP S 2
 have w3:=mP S 3
 rcases (show q=0∨q=1∨q=2∨q=3 by omega) with rfl | rfl | rfl | rfl
 focus
  have hd0:(i:Int) / 64=0:=hd
 rotate_left
 focus
  have hd0:(i:Int) / 64=1:=hd
 rotate_left
 focus
  have hd0:(i:Int) / 64=2:=hd
 rotate_left
 focus
  have hd0:(i:Int) / 64=3:=hd
 rotate_left
 all_goals
  clear hd
  go_enter Tryz.func104,Tryz.ntmps104
  go_wp2_with fail
  go_ret
  exact⟨by rw [HB.out];rfl,(Only.refl _ _).alloc _⟩
theorem zt (S k:Nat) (hk:k < 4):(sC S)[k]?=some (.int .u64 (wd S k:Int)):=by
 rcases (show k=0∨k=1∨k=2∨k=3 by omega) with rfl | rfl | rfl | rfl <;> rfl
theorem zu (S k:Nat) (hk:k < 4) (w:World):(Instr.index 124 (sV S) (.int .i64 (k:Int))).run Tryz.prog w=.ok (.int .u64 (wd S k:Int)) w:=by
 unfold sV sC
 rcases (show k=0∨k=1∨k=2∨k=3 by omega) with rfl | rfl | rfl | rfl <;> kernel_rfl
def mG (cs:Array Value) (o S:Nat):Nat→Array Value
 | 0=>cs
 | k+1=>(mG cs o S k).setIfInBounds (o+k) (.int .u64 (wd S k:Int))
theorem oK (cs:Array Value) (o S:Nat):∀k,(mG cs o S k).size=cs.size
 | 0=>rfl
 | k+1=>by rw [mG,Array.size_setIfInBounds,oK cs o S k]
theorem kv (cs:Array Value) (o S:Nat):∀(k j:Nat),o+k≤cs.size→(mG cs o S k)[j]?=if o≤j∧j < o+k then some (.int .u64 (wd S (j - o):Int)) else cs[j]?
 | 0,j,_=>by rw [mG,if_neg (by omega)]
 | k+1,j,h=>by
  rw [mG,Array.getElem?_setIfInBounds,kv cs o S k j (by omega),oK]
  by_cases e:o+k=j
  ·subst e
   rw [if_pos rfl,if_pos (by omega),if_pos (by omega),show o+k - o=k by omega]
  ·rw [if_neg e]
   by_cases h1:o≤j∧j < o+k
   ·rw [if_pos h1,if_pos (by omega)]
   ·rw [if_neg h1,if_neg (by omega)]
def tV (cs:Array Value) (o A:Nat):Prop:=∀k,k < 4→cs[o+k]?=some (.int .u64 (wd A k:Int))
theorem tV.size {cs:Array Value} {o A:Nat} (h:tV cs o A):o+4≤cs.size:=by
 have:=(Array.getElem?_eq_some_iff.1 (h 3 (by decide))).1
 omega
theorem ae {w:World} {b k:Nat} {cs:Array Value} {t:TypeId} (h:w.heap[b]?=some (.cells cs t (0,0))):w.cell? ⟨b,k,none⟩=cs[k]?:=cell_of_row _ _ _ _ _ _ h
theorem ak {w:World} {b:Nat} {cs:Array Value} {t:TypeId} (h:w.heap[b]?=some (.cells cs t (0,0))) (k:Nat):w.frozen? ⟨b,k,none⟩=false:=by simp [World.frozen?,h]
theorem dz (b o A B:Nat) (cs:Array Value) (t:TypeId) (w:World) (hb:w.heap[b]?=some (.cells cs t (0,0))) (hA:tV cs o A):
  Calls Tryz.prog 79 #[.pointer (some ⟨b,o,none⟩),sV B] w fun e w'=>e=.returned (.tuple #[])∧w'.heap[b]?=some (.cells (mG cs o (A ||| B) 4) t (0,0))∧Only (·=b) w w':=by
 have HBk:=zH hb
 have HA:=zH hA
 have hlt:b < w.heap.size:=(Array.getElem?_eq_some_iff.1 hb).1
 clear hb hA
 unfold sV sC
 have HOr:Hid (Only (·=b) w (w.alloc (.cells #[.int .u64 (wd B 0:Int),.int .u64 (wd B 1:Int),.int .u64 (wd B 2:Int),.int .u64 (wd B 3:Int)] 124))):=(Only.refl _ _).alloc _
 have HB0:Hid ((w.alloc (.cells #[.int .u64 (wd B 0:Int),.int .u64 (wd B 1:Int),.int .u64 (wd B 2:Int),.int .u64 (wd B 3:Int)] 124)).heap[b]?=some (.cells cs t (0,0))):=(Below.heap_alloc _ _ _ hlt).trans HBk.out
 go_enter Tryz.func79,Tryz.ntmps79
 go_wp2_with fail
 go_loopg [7] 4 (fun gh v wr=>∃(k:Nat) (W:World),W=wr∧gh=4 - k∧k≤4∧v=.int .i64 (k:Int)∧W.heap[b]?=some (.cells (mG cs o (A ||| B) k) t (0,0))∧Only (·=b) w W)
 case atStart=>exact⟨0,_,rfl,rfl,by omega,rfl,HB0.out,HOr.out⟩
 case round=>
  obtain⟨k,W,hW,rfl,hk,rfl,hbk,hO⟩:=hrel
  subst hW
  have MZ:=zH hbk
  have HO:=zH hO
  clear hbk hO
  by_cases mH:k < 4
  ·have t1:(k:Int) < 4:=by omega
   have hx:=zu B k mH
   unfold sV sC at hx
   have c1:W.cell? ⟨b,o+k,none⟩=some (.int .u64 (wd A k:Int)):=by
    rw [ae MZ.out,kv _ _ _ _ _ (by have:=HA.out.size;omega),if_neg (by omega)]
    exact HA.out k mH
   have f1:=ak MZ.out (o+k)
   have hor:=Uz A B k
   go_wp2_with fail
   go_region
   go_wp2_with fail
   go_roundg (4 -(k+1))
   case measure=>omega
   case rel=>exact⟨k+1,_,rfl,rfl,by omega,by go_num,aa MZ.out _,(HO.out.setCell (p:=⟨b,o+k,none⟩) rfl _).drew⟩
  ·have t2:decide ((k:Int) < 4)=false:=decide_eq_false (by omega)
   obtain rfl:k=4:=by omega
   go_wp2_with fail
   go_end0
   exact⟨rfl,MZ.out,HO.out⟩
theorem xN:(Tryz.prog.info? 124).map (·.size)=some 4:=by kernel_rfl
theorem D8 (A S:Nat):mG (sC A) 0 S 4=sC S:=rfl
def FK (w:World) (g o S:Nat):World:=(((w.setCell ⟨g,o,none⟩ (.int .u64 (wd S 0:Int))).setCell ⟨g,o+1,none⟩ (.int .u64 (wd S 1:Int))).setCell ⟨g,o+2,none⟩ (.int .u64 (wd S 2:Int))).setCell ⟨g,o+3,none⟩ (.int .u64 (wd S 3:Int))
theorem tq {w:World} {g o S:Nat} {cs:Array Value} {t:TypeId} {z:Nat × Nat} (h:w.heap[g]?=some (.cells cs t z)):(FK w g o S).heap[g]?=some (.cells (mG cs o S 4) t z):=aa (aa (aa (aa h _) _) _) _
theorem iV {P:Nat→Prop} {w0 w:World} (h:Only P w0 w) {g:Nat} (o S:Nat) (hg:P g):Only P w0 (FK w g o S):=(((h.setCell (p:=⟨g,o,none⟩) hg _).setCell (p:=⟨g,o+1,none⟩) hg _).setCell (p:=⟨g,o+2,none⟩) hg _).setCell (p:=⟨g,o+3,none⟩) hg _
theorem FL (w:World) (g o S:Nat):(FK w g o S).heap.size=w.heap.size:=by simp [FK,World.setCell]
theorem tX (w:World) {g h:Nat} (o S:Nat) (hn:h≠g):(FK w g o S).heap[h]?=w.heap[h]?:=by
 by_cases hl:h < w.heap.size
 ·exact (iV (Only.refl (·=g) w) o S rfl).block h hl hn
 ·rw [Array.getElem?_eq_none (by rw [FL];omega),Array.getElem?_eq_none (by omega)]
theorem wC {fn:Func} {p:Tmp} (h:fn.results=#[.cell p 124]) (tmps:Array Value) {w:World} {g S:Nat} (hp:tmps.getD p undef=.pointer (some ⟨g,0,none⟩)) (hg:w.heap[g]?=some (.cells (sC S) 124 (0,0))):(results fn tmps).run Tryz.prog w=.ok (sV S) w:=
 results_cell_row h tmps w g 124 _ (0,0) _ hp hg Tryz.underlying124 rfl xN
theorem Only.old {P Q:Nat→Prop} {w0 w:World} (h:Only P w0 w) (hP:∀g,P g→w0.heap.size≤g∨Q g):Only Q w0 w:=⟨h.os,h.tape,h.output,h.size,fun g hg hn=>h.block g hg (fun hp=>(hP g hp).elim (fun h=>by omega) hn)⟩
theorem oM (A B:Nat) (w:World):Calls Tryz.prog 81 #[sV A,sV B] w fun e w'=>e=.returned (sV (A &&& B))∧Only (fun _=>False) w w':=by
 have hsv:∀S,sV S=.agg #[.int .u64 (wd S 0:Int),.int .u64 (wd S 1:Int),.int .u64 (wd S 2:Int),.int .u64 (wd S 3:Int)]:=fun _=>rfl
 rw [hsv A,hsv B]
 clear hsv
 have HB0:Hid ((((w.alloc (.cells #[.int .u64 (wd A 0:Int),.int .u64 (wd A 1:Int),.int .u64 (wd A 2:Int),.int .u64 (wd A 3:Int)] 124)).alloc (.cells #[.int .u64 (wd B 0:Int),.int .u64 (wd B 1:Int),.int .u64 (wd B 2:Int),.int .u64 (wd B 3:Int)] 124)).alloc (.cells #[.int .u64 0,.int .u64 0,.int .u64 0,.int .u64 0] 124)).heap[w.heap.size]?=some (.cells (sC A) 124 (0,0))):=by
  rw [Below.heap_alloc _ _ _ (by simp;omega),Below.heap_alloc _ _ _ (by simp)]
  exact heap_alloc_new _ _
 have Ij:Hid ((((w.alloc (.cells #[.int .u64 (wd A 0:Int),.int .u64 (wd A 1:Int),.int .u64 (wd A 2:Int),.int .u64 (wd A 3:Int)] 124)).alloc (.cells #[.int .u64 (wd B 0:Int),.int .u64 (wd B 1:Int),.int .u64 (wd B 2:Int),.int .u64 (wd B 3:Int)] 124)).alloc (.cells #[.int .u64 0,.int .u64 0,.int .u64 0,.int .u64 0] 124)).heap[w.heap.size+2]?=some (.cells (sC 0) 124 (0,0))):=by
  have e:w.heap.size+2=((w.alloc (.cells #[.int .u64 (wd A 0:Int),.int .u64 (wd A 1:Int),.int .u64 (wd A 2:Int),.int .u64 (wd A 3:Int)] 124)).alloc (.cells #[.int .u64 (wd B 0:Int),.int .u64 (wd B 1:Int),.int .u64 (wd B 2:Int),.int .u64 (wd B 3:Int)] 124)).heap.size:=by simp
  rw [e]
  exact heap_alloc_new _ _
 have iA:Hid (Only (fun g=>w.heap.size≤g) w (((w.alloc (.cells #[.int .u64 (wd A 0:Int),.int .u64 (wd A 1:Int),.int .u64 (wd A 2:Int),.int .u64 (wd A 3:Int)] 124)).alloc (.cells #[.int .u64 (wd B 0:Int),.int .u64 (wd B 1:Int),.int .u64 (wd B 2:Int),.int .u64 (wd B 3:Int)] 124)).alloc (.cells #[.int .u64 0,.int .u64 0,.int .u64 0,.int .u64 0] 124))):=(((Only.refl _ _).alloc _).alloc _).alloc _
 go_enter Tryz.func81,Tryz.ntmps81
 go_wp2_with fail
 go_loopg [8] 4 (fun gh v wr=>∃(k:Nat) (W:World),W=wr∧gh=4 - k∧k≤4∧v=.int .i64 (k:Int)∧W.heap[w.heap.size]?=some (.cells (mG (sC A) 0 (A &&& B) k) 124 (0,0))∧W.heap[w.heap.size+2]?=some (.cells (sC 0) 124 (0,0))∧Only (fun g=>w.heap.size≤g) w W)
 case atStart=>exact⟨0,_,rfl,rfl,by omega,rfl,HB0.out,Ij.out,iA.out⟩
 case round=>
  obtain⟨k,W,hW,rfl,hk,rfl,hbk,hrk,hO⟩:=hrel
  subst hW
  have MZ:=zH hbk
  have Mx:=zH hrk
  have HO:=zH hO
  clear hbk hO hrk
  by_cases mH:k < 4
  ·have t1:(k:Int) < 4:=by omega
   have hx:=zu B k mH
   unfold sV sC at hx
   have c1:W.cell? ⟨w.heap.size,k,none⟩=some (.int .u64 (wd A k:Int)):=by
    rw [ae MZ.out,kv _ _ _ _ _ (by show 0+k≤4;omega),if_neg (by omega)]
    exact zt A k mH
   have f1:=ak MZ.out k
   have hor:=QA A B k
   go_wp2_with fail
   go_roundg (4 -(k+1))
   case measure=>omega
   case rel=>exact⟨k+1,_,rfl,rfl,by omega,by go_num,by rw [mG,Nat.zero_add];exact aa MZ.out _,(Below.heap_setCell _ _ _ _ (by simp)).trans Mx.out,(HO.out.setCell (p:=⟨w.heap.size,k,none⟩) (Nat.le_refl _) _)⟩
  ·have t2:decide ((k:Int) < 4)=false:=decide_eq_false (by omega)
   obtain rfl:k=4:=by omega
   have hb4:=MZ.out
   rw [D8] at hb4
   have c0:W.cell? ⟨w.heap.size,0,none⟩=some (.int .u64 (wd (A &&& B) 0:Int)):=ae hb4
   have c1:W.cell? ⟨w.heap.size,1,none⟩=some (.int .u64 (wd (A &&& B) 1:Int)):=ae hb4
   have c2:W.cell? ⟨w.heap.size,2,none⟩=some (.int .u64 (wd (A &&& B) 2:Int)):=ae hb4
   have c3:W.cell? ⟨w.heap.size,3,none⟩=some (.int .u64 (wd (A &&& B) 3:Int)):=ae hb4
   clear hb4
   have d0:W.cell? ⟨w.heap.size+2,0,none⟩=some (.int .u64 0):=ae Mx.out
   have d1:W.cell? ⟨w.heap.size+2,1,none⟩=some (.int .u64 0):=ae Mx.out
   have d2:W.cell? ⟨w.heap.size+2,2,none⟩=some (.int .u64 0):=ae Mx.out
   have d3:W.cell? ⟨w.heap.size+2,3,none⟩=some (.int .u64 0):=ae Mx.out
   have f0:=ak Mx.out 0
   have f1:=ak Mx.out 1
   have f2:=ak Mx.out 2
   have f3:=ak Mx.out 3
   go_wp2_with fail
   refine bodyPost_ret (v:=sV (A &&& B)) (wC (w:=FK W (w.heap.size+2) 0 (A &&& B)) (g:=w.heap.size+2) rfl _ rfl (tq Mx.out)) rfl ⟨rfl,?_⟩
   exact (iV HO.out 0 _ (by omega)).old (fun g h=>Or.inl h)
theorem UA (r:Nat) (hr:r < 64):IntKind.u64.wrap (2 ^ r)=((2 ^ r:Nat):Int):=by
 rw [IntKind.wrap_u64]
 have h:(2:Nat) ^ r < 18446744073709551616:=by
  have:=Nat.pow_lt_pow_right (a:=2) (by decide) hr
  simpa using this
 have:((2:Int) ^ r)=((2 ^ r:Nat):Int):=by push_cast;rfl
 rw [this]
 generalize 2 ^ r=m at h
 omega
theorem QD {q r i:Nat} (hq:q < 4) (hr:r < 64) (hw:∀j,wd (2 ^ i) j=if q=j then 2 ^ r else 0):(sC 0).setIfInBounds q (.int .u64 (bits .or .u64 0 (IntKind.u64.wrap (2 ^ r))))=sC (2 ^ i):=by
 have h:(2:Nat) ^ r < 18446744073709551616:=by
  have:=Nat.pow_lt_pow_right (a:=2) (by decide) hr
  simpa using this
 have e:bits .or .u64 0 (IntKind.u64.wrap (2 ^ r))=((2 ^ r:Nat):Int):=by
  rw [UA r hr]
  have:=u64_or_nat 0 (2 ^ r) (by decide) h
  rw [Nat.zero_or] at this
  exact this
 rw [e]
 unfold sC
 rw [hw 0,hw 1,hw 2,hw 3,bL,bL,bL,bL]
 rcases (show q=0∨q=1∨q=2∨q=3 by omega) with rfl | rfl | rfl | rfl <;> rfl
theorem M0 (b i:Nat) (hi:i < 256) (w:World) (hb:w.heap[b]?=some (.cells (sC 0) 124 (0,0))):
  Calls Tryz.prog 133 #[.pointer (some ⟨b,0,none⟩),.int .i64 (i:Int)] w fun e w'=>e=.returned (.tuple #[])∧w'.heap[b]?=some (.cells (sC (2 ^ i)) 124 (0,0))∧Only (·=b) w w':=by
 obtain⟨q,r,hq,hr,rfl⟩:∃q r,q < 4∧r < 64∧i=64*q+r:=⟨i / 64,i % 64,by omega,by omega,by omega⟩
 obtain⟨i,hii⟩:∃i:Nat,i=64*q+r:=⟨_,rfl⟩
 have hw:∀j,wd (2 ^ i) j=if q=j then 2 ^ r else 0:=fun j=>by rw [hii];exact Qy q r j hr
 rw [←hii] at ⊢
 have hP:=QD hq hr hw
 have HW:=zH hP
 have hm:(i:Int) % 64=(r:Int):=by omega
 have hd:(i:Int) / 64=(q:Int):=by omega
 have hl:(i:Int) < 256:=by omega
 have HB:=zH hb
 clear hii hi hb hw hP
 have e0:∀j,j < 4→w.cell? ⟨b,j,none⟩=some (.int .u64 0):=fun j hj=>by
  rw [ae HB.out,zt 0 j hj,bL];rfl
 have HE:=zH e0
 clear e0
 rcases (show q=0∨q=1∨q=2∨q=3 by omega) with rfl | rfl | rfl | rfl
 ·have hd0:(i:Int) / 64=0:=hd
  clear hd
  have d0:=HE.out 0 (by decide)
  have f0:=ak HB.out 0
  go_enter Tryz.func133,Tryz.ntmps133
  go_wp2_with fail
  go_region
  go_end0
  exact⟨rfl,by rw [←HW.out];exact aa HB.out _,((Only.refl (·=b) _).setCell (p:=⟨b,0,none⟩) rfl _).drew⟩
 ·have hd0:(i:Int) / 64=1:=hd
  clear hd
  have d0:=HE.out 1 (by decide)
  have f0:=ak HB.out 1
  go_enter Tryz.func133,Tryz.ntmps133
  go_wp2_with fail
  go_region
  go_end0
  exact⟨rfl,by rw [←HW.out];exact aa HB.out _,((Only.refl (·=b) _).setCell (p:=⟨b,1,none⟩) rfl _).drew⟩
 ·have hd0:(i:Int) / 64=2:=hd
  clear hd
  have d0:=HE.out 2 (by decide)
  have f0:=ak HB.out 2
  go_enter Tryz.func133,Tryz.ntmps133
  go_wp2_with fail
  go_region
  go_end0
  exact⟨rfl,by rw [←HW.out];exact aa HB.out _,((Only.refl (·=b) _).setCell (p:=⟨b,2,none⟩) rfl _).drew⟩
 ·have hd0:(i:Int) / 64=3:=hd
  clear hd
  have d0:=HE.out 3 (by decide)
  have f0:=ak HB.out 3
  go_enter Tryz.func133,Tryz.ntmps133
  go_wp2_with fail
  go_region
  go_end0
  exact⟨rfl,by rw [←HW.out];exact aa HB.out _,((Only.refl (·=b) _).setCell (p:=⟨b,3,none⟩) rfl _).drew⟩
end Go.Proofs.YtdlabakleldgaaaGreatDoor
