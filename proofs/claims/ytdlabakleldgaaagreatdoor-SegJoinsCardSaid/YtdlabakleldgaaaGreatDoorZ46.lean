/- V1 V2 V3 -/
import Derived.Test.YtdlabakleldgaaaGreatDoorZ45
import Derived.ChangeMaps5
import Derived.Deep.Strs
import Derived.OpenShut
import Derived.ProofKit
import Derived.ShutString
import Derived.WideShapes
import Derived.Test.YtdlabakleldgaaaGreatDoorZ00
set_option linter.unusedVariables false
set_option linter.unusedSimpArgs false
set_option maxRecDepth 100000
set_option maxHeartbeats 8000000
namespace Go.Proofs.YtdlabakleldgaaaGreatDoor
open Go.RowKit Go.Maps
structure Pr where
 d:Nat
 la:Option Addr
 ln:Nat
 lc:Nat
 L:List Nat
 ra:Option Addr
 rn:Nat
 rc:Nat
 R:List Nat
def Pr.Ok (w:World) (x:Pr):Prop:=x.d≤255∧Bw w x.la x.ln x.L∧x.ln≤x.lc∧x.lc≤maxLen∧Bw w x.ra x.rn x.R∧x.rn≤x.rc∧x.rc≤maxLen
def Rw (w:World) (a:Option Addr) (n:Nat) (rs:List Pr):Prop:=rs.length=n∧∃b off,(0 < n→a=some ⟨b,off,none⟩∧b < w.heap.size)∧∀(j:Nat) (x:Pr),rs[j]?=some x→
 x.Ok w∧w.cell? ⟨b,off+j*3,none⟩=some (.int .u8 (x.d:Int))∧w.cell? ⟨b,off+(j*3+1),none⟩=some (.slice x.la x.ln x.lc)∧w.cell? ⟨b,off+(j*3+2),none⟩=some (.slice x.ra x.rn x.rc)
theorem Bw.keep {w w':World} {a:Option Addr} {n:Nat} {L:List Nat} (h:Bw w a n L) (ho:Only (fun _=>False) w w'):Bw w' a n L:=h.only ho (fun _ _ h=>h.elim)
theorem Rw.keep {w w':World} {a:Option Addr} {n:Nat} {rs:List Pr} (h:Rw w a n rs) (ho:Only (fun _=>False) w w'):Rw w' a n rs:=by
 obtain⟨hl,b,off,h1,h2⟩:=h
 refine⟨hl,b,off,fun h0=>⟨(h1 h0).1,Nat.lt_of_lt_of_le (h1 h0).2 ho.size⟩,fun j x hj=>?_⟩
 have h0:0 < n:=by have:=(List.getElem?_eq_some_iff.1 hj).1;omega
 obtain⟨ha,hb⟩:=h1 h0
 obtain⟨⟨o1,o2,o3,o4,o5,o6,o7⟩,c0,c1,c2⟩:=h2 j x hj
 have hblk:=ho.block b hb (fun h=>h)
 exact⟨⟨o1,o2.keep ho,o3,o4,o5.keep ho,o6,o7⟩,(World.cell?_of_block (a:=⟨b,off+j*3,none⟩) hblk).trans c0,(World.cell?_of_block (a:=⟨b,off+(j*3+1),none⟩) hblk).trans c1,(World.cell?_of_block (a:=⟨b,off+(j*3+2),none⟩) hblk).trans c2⟩
theorem wf_u8 {a:Int} (h:(Lit.int .u8 a).wf=true):0≤a∧a≤255:=by
 have e1:IntKind.min .u8=0:=by decide
 have e2:IntKind.max .u8=255:=by decide
 simp only [Lit.wf,e1,e2,Bool.and_eq_true,decide_eq_true_eq] at h
 exact h
theorem tN {α:Type} {F:Nat→α} {len j:Nat} {x:α} (hj:((List.range len).map F)[j]?=some x):j < len∧x=F j:=by
 have hl:=(List.getElem?_eq_some_iff.1 hj).1
 simp at hl
 rw [List.getElem?_map,List.getElem?_range hl] at hj
 injection hj with hj
 exact⟨hl,hj.symm⟩
theorem iH {H:Type} {enc:TypeId × Value→H} {W:World} {fuel:Nat} {cs:List Value} {x:DataW H × List MemPlace}
  (hf:DataW.trod enc Tryz.prog W 0 (fun _=>true) true fuel 22 cs=some x):∃(a:Option Addr) (len cap:Nat) (L:List Nat),cs=[.slice a len cap]∧Bw W a len L∧len≤cap∧cap≤maxLen:=by
 rcases Deep.open_slice Tryz.underlying22 hf with ⟨rfl,_⟩ | ⟨ad,len,cap,m,n,D,Pl,rfl,_,hl,hm,hmm,_,hx⟩
 ·exact⟨none,0,0,[],rfl,⟨rfl,0,0,fun h=>absurd h (by omega),fun j x hj=>by simp at hj⟩,Nat.le_refl _,Nat.zero_le _⟩
 ·have hlm:len≤m:=by rw [hmm];simpa using hl
  have each:∀i,i < len→∃x:Nat,W.cell? (ad.add i)=some (.int .u8 (x:Int))∧x≤255:=by
   intro i hi
   obtain⟨cs',h1,h2⟩:=hx i (by omega)
   have ce:Tryz.prog.cellsOf 5=1:=by kernel_rfl
   rw [ce,Nat.mul_one] at h1
   obtain⟨_,hlen,hcell⟩:=World.cells?_some h1
   match cs',hlen with
   | [v0],_=>
    obtain⟨n0,e0,_,w0⟩:=DataW.trod_int Tryz.underlying5 h2
    simp at e0
    subst e0
    have k0:=hcell 0 (by omega)
    rw [Deep.add_add] at k0
    obtain⟨b1,b2⟩:=wf_u8 w0
    refine⟨n0.toNat,?_,by omega⟩
    rw [Int.toNat_of_nonneg b1]
    exact k0
  obtain⟨F,hF⟩:=Deep.choose_lt each
  by_cases h0:0 < len
  ·obtain⟨b,off,spot⟩:=ad
   have hspot:spot=none:=by simpa [Addr.add] using World.cell?_spot (hF 0 h0).1
   subst hspot
   refine⟨some ⟨b,off,none⟩,len,cap,(List.range len).map F,rfl,⟨by simp,b,off,fun _=>⟨rfl,?_⟩,fun j x hj=>?_⟩,hl,hm⟩
   ·have:=(hF 0 h0).1
    rw [Addr.add_mid] at this
    exact World.block_lt_of_cell? W _ this
   ·obtain⟨hj',rfl⟩:=tN hj
    have:=(hF j hj').1
    rw [Addr.add_mid] at this
    exact⟨(hF j hj').2,this⟩
  ·exact⟨some ad,len,cap,(List.range len).map F,rfl,⟨by simp,0,0,fun h=>absurd h h0,fun j x hj=>absurd (tN hj).1 (by omega)⟩,hl,hm⟩
theorem u54:∃f0 f1 f2:Field,Tryz.prog.underlying 27=some (.struct #[f0,f1,f2])∧f0.type=5∧f1.type=22∧f2.type=22∧f0.offset=0∧f1.offset=1∧f2.offset=2:=⟨_,_,_,Tryz.underlying27,rfl,rfl,rfl,rfl,rfl,rfl⟩
theorem Bi {H:Type} {enc:TypeId × Value→H} {W:World} {fuel:Nat} {cs:List Value} {x:DataW H × List MemPlace}
  (hf:DataW.trod enc Tryz.prog W 0 (fun _=>true) true fuel 23 cs=some x):∃(a:Option Addr) (len cap:Nat) (rs:List Pr),cs=[.slice a len cap]∧Rw W a len rs∧len≤cap∧cap≤maxLen:=by
 rcases Deep.open_slice Tryz.underlying23 hf with ⟨rfl,_⟩ | ⟨ad,len,cap,m,n,D,Pl,rfl,_,hl,hm,hmm,_,hx⟩
 ·exact⟨none,0,0,[],rfl,⟨rfl,0,0,fun h=>absurd h (by omega),fun j x hj=>by simp at hj⟩,Nat.le_refl _,Nat.zero_le _⟩
 ·have hlm:len≤m:=by rw [hmm];simpa using hl
  obtain⟨f0,f1,f2,hu,t0,t1,t2,o0,o1,o2⟩:=u54
  have each:∀i,i < len→∃x:Pr,x.Ok W∧W.cell? (ad.add (i*3))=some (.int .u8 (x.d:Int))∧W.cell? (ad.add (i*3+1))=some (.slice x.la x.ln x.lc)∧W.cell? (ad.add (i*3+2))=some (.slice x.ra x.rn x.rc):=by
   intro i hi
   obtain⟨cs',h1,h2⟩:=hx i (by omega)
   have ce:Tryz.prog.cellsOf 27=3:=by kernel_rfl
   have c5:Tryz.prog.cellsOf 5=1:=by kernel_rfl
   have c24:Tryz.prog.cellsOf 22=1:=by kernel_rfl
   rw [ce] at h1
   obtain⟨_,hlen,hcell⟩:=World.cells?_some h1
   obtain⟨y0,y1,y2,k,_,_,g0,g1,g2⟩:=Deep.trod_struct3 hu h2
   rw [t0,o0,c5] at g0
   rw [t1,o1,c24] at g1
   rw [t2,o2,c24] at g2
   match cs',hlen with
   | [v0,v1,v2],_=>
    obtain⟨n0,e0,_,w0⟩:=DataW.trod_int Tryz.underlying5 g0
    obtain⟨a1,l1,p1,L1,e1,B1,q1,m1⟩:=iH g1
    obtain⟨a2,l2,p2,L2,e2,B2,q2,m2⟩:=iH g2
    simp at e0 e1 e2
    subst e0 e1 e2
    have k0:=hcell 0 (by omega)
    have k1:=hcell 1 (by omega)
    have k2:=hcell 2 (by omega)
    rw [Deep.add_add] at k0 k1 k2
    obtain⟨b1,b2⟩:=wf_u8 w0
    refine⟨⟨n0.toNat,a1,l1,p1,L1,a2,l2,p2,L2⟩,⟨show n0.toNat≤255 by omega,B1,q1,m1,B2,q2,m2⟩,?_,k1,k2⟩
    show _=some (Value.int .u8 (n0.toNat:Int))
    rw [Int.toNat_of_nonneg b1]
    exact k0
  have abO:Inhabited Pr:=⟨⟨0,none,0,0,[],none,0,0,[]⟩⟩
  obtain⟨F,hF⟩:=Deep.choose_lt each
  by_cases h0:0 < len
  ·obtain⟨b,off,spot⟩:=ad
   have hspot:spot=none:=by simpa [Addr.add] using World.cell?_spot (hF 0 h0).2.1
   subst hspot
   refine⟨some ⟨b,off,none⟩,len,cap,(List.range len).map F,rfl,⟨by simp,b,off,fun _=>⟨rfl,?_⟩,fun j x hj=>?_⟩,hl,hm⟩
   ·have:=(hF 0 h0).2.1
    rw [Addr.add_mid] at this
    exact World.block_lt_of_cell? W _ this
   ·obtain⟨hj',rfl⟩:=tN hj
    obtain⟨k,c0,c1,c2⟩:=hF j hj'
    rw [Addr.add_mid] at c0 c1 c2
    exact⟨k,c0,c1,c2⟩
  ·exact⟨some ad,len,cap,(List.range len).map F,rfl,⟨by simp,0,0,fun h=>absurd h h0,fun j x hj=>absurd (tN hj).1 (by omega)⟩,hl,hm⟩
def jd (c jo af:Nat) (aT:Option Addr) (nT cT:Nat) (aR:Option Addr) (nR cR:Nat):Value:=.agg #[.int .u8 (c:Int),.int .u8 (jo:Int),.int .u8 (af:Int),.slice aT nT cT,.slice aR nR cR]
theorem Hq {H:Type} {enc:TypeId × Value→H} {W:World} {v:Value} {d:DataW H} {p:List MemPlace} {b0:Nat} (hv:Value.okWide Tryz.prog W .any b0 25 v)
  (h:DataW.Trod enc Tryz.prog W 0 (fun _=>true) true 25 v d p):
  ∃(c jo af:Nat) (aT:Option Addr) (nT cT:Nat) (T:List Nat) (aR:Option Addr) (nR cR:Nat) (rs:List Pr),v=jd c jo af aT nT cT aR nR cR∧c≤255∧jo≤255∧af≤255∧Bw W aT nT T∧nT≤cT∧cT≤maxLen∧Rw W aR nR rs∧nR≤cR∧cR≤maxLen:=by
 obtain⟨cs,rfl,hs⟩:=Go.WideShapes.okWide_struct Tryz.underlying25 hv
 obtain⟨fuel,hf⟩:=h
 obtain⟨xs,n,_,_,hl,hlen,hx⟩:=DataW.trod_struct Tryz.underlying25 hf
 have c27:Tryz.prog.cellsOf 25=5:=by kernel_rfl
 have c5:Tryz.prog.cellsOf 5=1:=by kernel_rfl
 have c24:Tryz.prog.cellsOf 22=1:=by kernel_rfl
 have c25:Tryz.prog.cellsOf 23=1:=by kernel_rfl
 rw [c27] at hs
 obtain⟨l⟩:=cs
 simp at hs
 match l,hs with
 | [v0,v1,v2,v3,v4],_=>
  match xs,hlen with
  | [y0,y1,y2,y3,y4],_=>
   have g0:DataW.trod enc Tryz.prog W 0 (fun _=>true) true n 5 (([v0,v1,v2,v3,v4].drop 0).take (Tryz.prog.cellsOf 5))=some y0:=hx 0 _ rfl
   have g1:DataW.trod enc Tryz.prog W 0 (fun _=>true) true n 5 (([v0,v1,v2,v3,v4].drop 1).take (Tryz.prog.cellsOf 5))=some y1:=hx 1 _ rfl
   have g2:DataW.trod enc Tryz.prog W 0 (fun _=>true) true n 5 (([v0,v1,v2,v3,v4].drop 2).take (Tryz.prog.cellsOf 5))=some y2:=hx 2 _ rfl
   have g3:DataW.trod enc Tryz.prog W 0 (fun _=>true) true n 22 (([v0,v1,v2,v3,v4].drop 3).take (Tryz.prog.cellsOf 22))=some y3:=hx 3 _ rfl
   have g4:DataW.trod enc Tryz.prog W 0 (fun _=>true) true n 23 (([v0,v1,v2,v3,v4].drop 4).take (Tryz.prog.cellsOf 23))=some y4:=hx 4 _ rfl
   rw [c5] at g0 g1 g2
   rw [c24] at g3
   rw [c25] at g4
   obtain⟨n0,e0,_,w0⟩:=DataW.trod_int Tryz.underlying5 g0
   obtain⟨n1,e1,_,w1⟩:=DataW.trod_int Tryz.underlying5 g1
   obtain⟨n2,e2,_,w2⟩:=DataW.trod_int Tryz.underlying5 g2
   obtain⟨a3,l3,p3,L3,e3,B3,q3,m3⟩:=iH g3
   obtain⟨a4,l4,p4,L4,e4,B4,q4,m4⟩:=Bi g4
   simp at e0 e1 e2 e3 e4
   subst e0 e1 e2 e3 e4
   have b0:=wf_u8 w0
   have b1:=wf_u8 w1
   have b2:=wf_u8 w2
   refine⟨n0.toNat,n1.toNat,n2.toNat,a3,l3,p3,L3,a4,l4,p4,L4,?_,by omega,by omega,by omega,B3,q3,m3,B4,q4,m4⟩
   unfold jd
   rw [Int.toNat_of_nonneg b0.1,Int.toNat_of_nonneg b1.1,Int.toNat_of_nonneg b2.1]
namespace Hd
def fE:Str:=[116,114,101,97,116,32]
def j_:Str:=[106,111,105,110]
def first (n:Nat):Str:=cat (cat [99,108,97,115,115] (names n 255 n)) [59,10]
def second (n jo af:Nat):Str:=if jo=0 then first n else cat (cat (cat (cat (cat (first n) [106,111,105,110]) (names n jo n)) [32,47]) (names n af n)) [59,10]
def au (n:Nat) (T:List Nat) (t:Str):Nat→Str
 | 0=>t
 | k+1=>cat (cat (cat (cat (cat (au n T t k) [116,114,101,97,116,32]) (name n k)) [32,61,32]) (name n (at' T k))) [59,10]
def word (d:Nat):Str:=if d % 3=0 then [107,101,101,112,32] else if d % 3=1 then [109,97,121,32] else [109,117,115,116,32]
def ru (n:Nat) (rs:List Pr) (t:Str):Nat→Str
 | 0=>t
 | k+1=>match rs[k]? with
  | none=>ru n rs t k
  | some x=>cat (cat (cat (cat (cat (ru n rs t k) (word x.d)) (expr n x.L)) [32,47,32]) (expr n x.R)) [59,10]
def text (n jo af:Nat) (T:List Nat) (rs:List Pr):Str:=ru n rs (au n T (second n jo af) (min T.length n)) (min rs.length 10)
theorem rA (n:Nat) (h:n≤6):(first n).length≤19∧7≤(first n).length:=by
 have:=bE n 255 n
 unfold first
 simp only [bA,List.length_cons,List.length_nil]
 omega
theorem uT (n jo af:Nat) (h:n≤6):(second n jo af).length≤51∧7≤(second n jo af).length:=by
 have:=rA n h
 have h1:=bE n jo n
 have h2:=bE n af n
 unfold second
 split
 ·omega
 ·simp only [bA,List.length_cons,List.length_nil]
  omega
theorem rC (n:Nat) (T:List Nat) (t:Str):∀k,(au n T t k).length=t.length+13*k
 | 0=>rfl
 | k+1=>by
  rw [au]
  simp only [bA,List.length_cons,List.length_nil,rC n T t k,name]
  omega
theorem bF (n:Nat) (L:List Nat) (h:n≤6):(expr n L).length≤432:=by
 unfold expr
 split
 ·simp
 ·have:=(Bh n (L.take 30) h 3 0 (by omega)).2
  omega
theorem qi (d:Nat):(word d).length≤5∧4≤(word d).length:=by
 unfold word
 repeat' split
 all_goals simp
theorem DN (n:Nat) (rs:List Pr) (t:Str) (h:n≤6):∀k,(ru n rs t k).length≤t.length+874*k∧t.length≤(ru n rs t k).length
 | 0=>⟨Nat.le_refl _,Nat.le_refl _⟩
 | k+1=>by
  have ih:=DN n rs t h k
  rw [ru]
  split
  ·omega
  ·rename_i x hx
   have h1:=bF n x.L h
   have h2:=bF n x.R h
   have h3:=qi x.d
   simp only [bA,List.length_cons,List.length_nil]
   omega
end Hd
def vF (w:World) (g:Nat) (c jo af:Nat) (aT:Option Addr) (nT cT:Nat) (aR:Option Addr) (nR cR:Nat):Prop:=w.heap[g]?=some (.cells #[.int .u8 (c:Int),.int .u8 (jo:Int),.int .u8 (af:Int),.slice aT nT cT,.slice aR nR cR] 25 (0,0))
namespace vF
variable {w w':World} {g c jo af:Nat} {aT:Option Addr} {nT cT:Nat} {aR:Option Addr} {nR cR:Nat}
theorem keep (h:vF w g c jo af aT nT cT aR nR cR) (ho:Only (fun _=>False) w w'):vF w' g c jo af aT nT cT aR nR cR:=(ho.block g (Array.getElem?_eq_some_iff.1 h).1 (fun h=>h)).trans h
theorem c1 (h:vF w g c jo af aT nT cT aR nR cR):w.cell? ⟨g,1,none⟩=some (.int .u8 (jo:Int)):=(cell_of_row _ _ _ _ _ _ h).trans rfl
theorem c2 (h:vF w g c jo af aT nT cT aR nR cR):w.cell? ⟨g,2,none⟩=some (.int .u8 (af:Int)):=(cell_of_row _ _ _ _ _ _ h).trans rfl
theorem c3 (h:vF w g c jo af aT nT cT aR nR cR):w.cell? ⟨g,3,none⟩=some (.slice aT nT cT):=(cell_of_row _ _ _ _ _ _ h).trans rfl
theorem c4 (h:vF w g c jo af aT nT cT aR nR cR):w.cell? ⟨g,4,none⟩=some (.slice aR nR cR):=(cell_of_row _ _ _ _ _ _ h).trans rfl
end vF
theorem uU (c jo af:Nat) (aT:Option Addr) (nT cT:Nat) (aR:Option Addr) (nR cR:Nat) (w:World) (hc:c≤255):
  Calls Tryz.prog 9 #[jd c jo af aT nT cT aR nR cR] w fun e w'=>e=.returned (.int .i64 ((1+c % 6:Nat):Int))∧Only (fun _=>False) w w':=by
 unfold jd
 have t1:0≤(c:Int) % 6:=by omega
 have t2:(c:Int) % 6 < 6:=by omega
 go_enter Tryz.func9,Tryz.ntmps9
 go_wp2_with fail
 go_ret
 exact⟨by refine congrArg (fun z=>Ending.returned (Value.int .i64 z)) ?_;omega,(Only.refl _ w).alloc _⟩
theorem jH (n:Nat) (a:Option Addr) (k cap:Nat) (L:List Nat) (w:World) (hn:1≤n) (bg:n≤6) (hB:Bw w a k L) (hkc:k≤cap):
  Calls Tryz.prog 21 #[.int .i64 (n:Int),.slice a k cap] w fun e w'=>e=.returned (.string (bs (Hd.expr n L)))∧Only (fun _=>False) w w':=by
 have hl:L.length=k:=hB.1
 have HB:=zH hB
 by_cases h0:k=0
 ·subst h0
  rw [show Hd.expr n L=[] by unfold Hd.expr;rw [if_pos hl]]
  clear hB hl
  go_enter Tryz.func21,Tryz.ntmps21
  go_wp2_with fail
  go_ret
  exact⟨rfl,Only.refl _ w⟩
 ·rw [show Hd.expr n L=(Hd.ex n (L.take 30) 3 0).1 by unfold Hd.expr;rw [if_neg (by omega)]]
  obtain⟨b,off,ha,hb⟩:∃b off,a=some ⟨b,off,none⟩∧b < w.heap.size:=by
   obtain⟨_,b,off,h1,_⟩:=hB
   exact⟨b,off,(h1 (by omega)).1,(h1 (by omega)).2⟩
  subst ha
  have t1:¬(k:Int)=0:=by omega
  have t2:decide ((k:Int)=0)=false:=decide_eq_false t1
  by_cases h30:k≤30
  ·rw [show L.take 30=L from List.take_of_length_le (by omega)]
   have MN:Hid (Bw w (some ⟨b,off,none⟩) k L):=HB.out
   have t3:(k:Int)≤30:=by omega
   clear hB hl
   go_enter Tryz.func21,Tryz.ntmps21
   go_wp2_with fail
   refine (LM n w.heap.size (some ⟨b,off,none⟩) k cap L hn bg (by omega) (fun o e=>by injection e with e;injection e with e1 e2;omega) 0 _ (by unfold Rb;show (w.heap.push _)[w.heap.size]?=_;simp;(try rfl);(try omega)) (MN.out.only ((Only.refl (fun _=>False) w).alloc _) (fun _ _ h=>h.elim)) (by omega)).mono ?_
   rintro e w1 ⟨rfl,az,ho1⟩
   go_wp2_with fail
   go_ret
   exact⟨rfl,Only.newAt (((Only.refl _ w).alloc _).trans ho1)⟩
  ·have MN:Hid (Bw w (some ⟨b,off,none⟩) 30 (L.take 30)):=HB.out.take 30 (by omega)
   have t3:¬(k:Int)≤30:=by omega
   clear hB hl
   go_enter Tryz.func21,Tryz.ntmps21
   go_wp2_with fail
   refine (LM n w.heap.size (some ⟨b,off,none⟩) 30 cap (L.take 30) hn bg (by omega) (fun o e=>by injection e with e;injection e with e1 e2;omega) 0 _ (by unfold Rb;show (w.heap.push _)[w.heap.size]?=_;simp;(try rfl);(try omega)) (MN.out.only ((Only.refl (fun _=>False) w).alloc _) (fun _ _ h=>h.elim)) (by omega)).mono ?_
   rintro e w1 ⟨rfl,az,ho1⟩
   go_wp2_with fail
   go_ret
   exact⟨rfl,Only.newAt (((Only.refl _ w).alloc _).trans ho1)⟩
end Go.Proofs.YtdlabakleldgaaaGreatDoor
