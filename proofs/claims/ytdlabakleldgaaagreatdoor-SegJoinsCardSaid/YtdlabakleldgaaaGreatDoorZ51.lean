/- Sgi Sv -/
import Derived.Test.YtdlabakleldgaaaGreatDoorZ40
import Derived.Test.YtdlabakleldgaaaGreatDoorRows
import Derived.Test.YtdlabakleldgaaaGreatDoorZ36
import Derived.Test.YtdlabakleldgaaaGreatDoorZ46
import Derived.Test.YtdlabakleldgaaaGreatDoorZ16
import Derived.Lib.LaidTab
import Derived.ChangeOld
import Derived.Below
import Derived.Deep.DeepHandedRow
import Derived.Deep.Grids
import Derived.ChangeSlices
set_option linter.unusedVariables false
set_option linter.unusedSimpArgs false
set_option maxRecDepth 100000
set_option maxHeartbeats 8000000
namespace Go.Proofs.YtdlabakleldgaaaGreatDoor
open Go.RowKit Go.Maps
open Rl (Ex)
def oI (V:List Int) (Z:Nat→Nat):Nat→List Int
 | 0=>[]
 | k+1=>oI V Z k++(V[k]?.getD 0::List.replicate (Z k) 0)
def pz (V:List Int) (Z:Nat→Nat) (i:Nat):Nat:=(oI V Z i).length
def BA (V:List Int) (Z:Nat→Nat) (k:Nat):List Int:=(List.range k).map (fun i=>(pz V Z i:Int))
theorem BC (V:List Int) (Z:Nat→Nat) (k:Nat):BA V Z (k+1)=BA V Z k++[(pz V Z k:Int)]:=by
 unfold BA
 rw [List.range_succ,List.map_append]
 rfl
theorem FC (V:List Int) (Z:Nat→Nat) (k:Nat):pz V Z (k+1)=pz V Z k+1+Z k:=by
 unfold pz
 rw [oI,List.length_append,List.length_cons,List.length_replicate]
 omega
theorem su (V:List Int) (Z:Nat→Nat) {i:Nat}:∀ {k:Nat},i < k→pz V Z i < pz V Z k
 | 0,h=>by omega
 | k+1,h=>by
  rw [FC]
  by_cases e:i=k
  ·subst e;omega
  ·have:=su V Z (i:=i) (k:=k) (by omega)
   omega
theorem Mj (V:List Int) (Z:Nat→Nat) {i k:Nat} (h:i≠k):pz V Z i≠pz V Z k:=by
 rcases Nat.lt_or_gt_of_ne h with h | h
 ·have:=su V Z h;omega
 ·have:=su V Z h;omega
theorem DZ (V:List Int) (Z:Nat→Nat) {i k:Nat} (h:i < k):(BA V Z k)[i]?=some (pz V Z i:Int):=by
 unfold BA
 rw [List.getElem?_map,List.getElem?_range h]
 rfl
theorem qz (V:List Int) (Z:Nat→Nat) (k:Nat):(BA V Z k).length=k:=by
 unfold BA
 rw [List.length_map,List.length_range]
theorem Mk (V:List Int) (Z:Nat→Nat) {i:Nat}:∀ {k:Nat},i < k→(oI V Z k)[pz V Z i]?=some (V[i]?.getD 0)
 | 0,h=>by omega
 | k+1,h=>by
  rw [oI]
  by_cases e:i=k
  ·subst e
   show (oI V Z i++_)[(oI V Z i).length]?=_
   rw [List.getElem?_append_right (Nat.le_refl _),Nat.sub_self]
   rfl
  ·rw [List.getElem?_append_left (by exact su V Z (by omega:i < k))]
   exact Mk V Z (by omega)
theorem ve (V:List Int):∀k,k≤V.length→oI V (fun _=>0) k=V.take k
 | 0,_=>by simp [oI]
 | k+1,h=>by
  have hk:k < V.length:=by omega
  rw [oI,ve V k (by omega),List.take_succ_eq_append_getElem hk,List.getElem?_eq_getElem hk]
  rfl
theorem FD (V:List Int) {k:Nat} (h:k≤V.length):pz V (fun _=>0) k=k:=by
 unfold pz
 rw [ve V k h,List.length_take]
 omega
theorem FE (V:List Int) (Z:Nat→Nat) (hZ:∀i,Z i≤2):∀k,(oI V Z k).length≤3*k
 | 0=>by simp [oI]
 | k+1=>by
  rw [oI,List.length_append,List.length_cons,List.length_replicate]
  have h1:=FE V Z hZ k
  have h2:=hZ k
  omega
def MS (jn af:Int) (n:Nat):Prop:=mM jn 0=true∧∀c:Int,1≤c→c <(n:Int)→mM jn c=false∧mM af c=true
theorem jn0 {n:Nat} (h2:2≤n) (h6:n≤6):MS (Rl.gu 0 ((1 % 2 ^ n:Nat):Int)) (Rl.gu 0 ((254 % 2 ^ n:Nat):Int)) n:=by
 have key:((List.range 7).all fun n=>decide (n < 2) ||(mM (Rl.gu 0 ((1 % 2 ^ n:Nat):Int)) 0 &&(List.range n).all fun c=>decide (c < 1) ||(!mM (Rl.gu 0 ((1 % 2 ^ n:Nat):Int)) (c:Int) && mM (Rl.gu 0 ((254 % 2 ^ n:Nat):Int)) (c:Int))))=true:=by kernel_rfl
 rw [List.all_eq_true] at key
 have h:=key n (List.mem_range.2 (by omega))
 rw [Bool.or_eq_true,Bool.and_eq_true,List.all_eq_true] at h
 rcases h with h | ⟨ha,hb⟩
 ·have:=of_decide_eq_true h;omega
 refine⟨ha,fun c h1 hc=>?_⟩
 obtain⟨q,rfl⟩:∃q:Nat,c=(q:Int):=⟨c.toNat,by omega⟩
 have h:=hb q (List.mem_range.2 (by omega))
 rw [Bool.or_eq_true,Bool.and_eq_true] at h
 rcases h with h | ⟨h1,h2⟩
 ·have:=of_decide_eq_true h;omega
 ·exact⟨by simpa using h1,h2⟩
def Qu (V:List Int) (n:Nat):Prop:=∀c∈V,1≤c∧c <(n:Int)
theorem BD {jn af:Int} {n:Nat} (h:MS jn af n) (B:List Int):∀(z i:Nat),al jn af n (List.replicate z 0++B) i true=al jn af n B (i+z) true
 | 0,i=>rfl
 | z+1,i=>by
  rw [List.replicate_succ,List.cons_append,al,if_pos ⟨rfl,by rw [show fF 0 (n:Int)=0 by unfold fF;split <;> rfl];exact h.1⟩,BD h B z (i+1)]
  congr 1
  omega
theorem D5 {jn af:Int} {n:Nat} (h:MS jn af n) {V:List Int} (hV:Qu V n) (Z:Nat→Nat):∀(k:Nat),k≤V.length→∀B,al jn af n (oI V Z k++B) 0 false=BA V Z k++al jn af n B (pz V Z k) (decide (0 < k))
 | 0,_,B=>rfl
 | k+1,hk,B=>by
  have hkl:k < V.length:=by omega
  obtain⟨c,hc⟩:∃c,V[k]?=some c:=⟨_,List.getElem?_eq_getElem hkl⟩
  obtain⟨h1,h2⟩:=hV c (List.mem_of_getElem? hc)
  obtain⟨h3,h4⟩:=h.2 c h1 h2
  have hcl:fF c (n:Int)=c:=Kj (by omega) h2
  rw [oI,List.append_assoc,List.cons_append,D5 h hV Z k (by omega),hc,BC,List.append_assoc]
  congr 1
  show al jn af n (c::(List.replicate (Z k) 0++B)) (pz V Z k) (decide (0 < k))=_
  rw [al,if_neg (fun hh=>by rw [hcl,h3] at hh;exact absurd hh.2 (by decide)),hcl,h4,BD h B,←FC]
  rfl
theorem vg (base P B:List Int) (j:Nat):∀k,(∀i,0 < i→i < k→(P[i]?.getD 0).toNat≠j)→(rn base P B k)[j]?=base[j]?
 | 0,_=>rfl
 | k+1,h=>by
  rw [rn]
  split
  ·exact vg base P B j k (fun i h0 h1=>h i h0 (by omega))
  ·rw [List.getElem?_set_ne (h k (by omega) (by omega))]
   exact vg base P B j k (fun i h0 h1=>h i h0 (by omega))
theorem Qv (base P B:List Int) {i:Nat} (h0:0 < i) (hb:(P[i]?.getD 0).toNat < base.length):∀k,i < k→(∀a,i < a→a < k→(P[a]?.getD 0).toNat≠(P[i]?.getD 0).toNat)→(rn base P B k)[(P[i]?.getD 0).toNat]?=some (B[i]?.getD 0)
 | 0,h,_=>by omega
 | k+1,h,hi=>by
  rw [rn,if_neg (by omega)]
  by_cases e:i=k
  ·subst e
   rw [List.getElem?_set_self (by rw [yT];exact hb)]
  ·rw [List.getElem?_set_ne (hi k (by omega) (by omega))]
   exact Qv base P B h0 hb k (by omega) (fun a h1 h2=>hi a h1 (by omega))
theorem Pg (s:Rl.St) {n:Nat} (h:MS s.join s.after n) {V:List Int} (hV:Qu V n) (Z:Nat→Nat):rowOf s n (oI V Z V.length)=V.map (fun c=>(s.au.map (fun x=>fF x n))[(fF c (s.au.map (fun x=>fF x n)).length).toNat]?.getD 0):=by
 unfold rowOf
 have e:=D5 h hV Z V.length (Nat.le_refl _) []
 rw [List.append_nil] at e
 rw [e,al,List.append_nil]
 apply List.ext_getElem?
 intro i
 rw [List.getElem?_map,List.getElem?_map]
 by_cases hi:i < V.length
 ·rw [DZ V Z hi,List.getElem?_eq_getElem hi]
  show some (AZ _ _ _)=some _
  unfold AZ
  rw [Int.toNat_natCast,Mk V Z hi,List.getElem?_eq_getElem hi]
  rfl
 ·rw [List.getElem?_eq_none (by rw [qz];omega),List.getElem?_eq_none (by omega)]
  rfl
def bj (s:Rl.St) (n:Nat) (nL:List (List Nat)) (oL:List Nat) (nR:List (List Nat)) (oR:List Nat) (V:List Int):List Int:=Yo (s.list.map (·.does)) nL oL nR oR (V.map (fun c=>(s.au.map (fun x=>fF x n))[(fF c (s.au.map (fun x=>fF x n)).length).toNat]?.getD 0))
theorem zh (s:Rl.St) {n:Nat} (h:MS s.join s.after n) {V:List Int} (hV:Qu V n) (Z:Nat→Nat) (nL:List (List Nat)) (oL:List Nat) (nR:List (List Nat)) (oR:List Nat):
  iG s n nL oL nR oR (pz V Z V.length) (oI V Z V.length)=rn (List.replicate (pz V Z V.length) 0++[2]) (BA V Z V.length) (bj s n nL oL nR oR V) V.length:=by
 unfold iG bj
 rw [Pg s h hV Z]
 have e:=D5 h hV Z V.length (Nat.le_refl _) []
 rw [List.append_nil] at e
 rw [e,al,List.append_nil,qz]
theorem jM (V:List Int) (Z:Nat→Nat) {i k:Nat} (h:i < k):((BA V Z k)[i]?.getD 0).toNat=pz V Z i:=by
 rw [DZ V Z h]
 rfl
theorem FH {p j:Nat} (h:j < p):(List.replicate p (0:Int)++[2])[j]?=some 0:=by
 rw [List.getElem?_append_left (by rw [List.length_replicate];exact h),List.getElem?_replicate_of_lt h]
theorem zi (s:Rl.St) {n:Nat} (h:MS s.join s.after n) {V:List Int} (hV:Qu V n) (Z:Nat→Nat) (nL:List (List Nat)) (oL:List Nat) (nR:List (List Nat)) (oR:List Nat) {i:Nat} (hi:i < V.length):
  (iG s n nL oL nR oR (pz V Z V.length) (oI V Z V.length))[pz V Z i]?=some (if i=0 then 0 else (bj s n nL oL nR oR V)[i]?.getD 0):=by
 rw [zh s h hV Z]
 split
 ·rename_i e
  subst e
  rw [vg _ _ _ _ _ (fun a h0 h1=>by rw [jM V Z h1];exact Mj V Z (by omega))]
  exact FH (su V Z hi)
 ·have e:=Qv (List.replicate (pz V Z V.length) 0++[2]) (BA V Z V.length) (bj s n nL oL nR oR V) (i:=i) (by omega) (by rw [jM V Z hi,List.length_append,List.length_replicate];have:=su V Z hi;omega) V.length hi (fun a h1 h2=>by rw [jM V Z hi,jM V Z h2];exact Mj V Z (by omega))
  rw [jM V Z hi] at e
  exact e
theorem Ph (s:Rl.St) {n:Nat} (h:MS s.join s.after n) {V:List Int} (hV:Qu V n) (Z:Nat→Nat) (nL:List (List Nat)) (oL:List Nat) (nR:List (List Nat)) (oR:List Nat) {j:Nat} (hj:j < pz V Z V.length) (hn:∀i,i < V.length→pz V Z i≠j):
  (iG s n nL oL nR oR (pz V Z V.length) (oI V Z V.length))[j]?=some 0:=by
 rw [zh s h hV Z,vg _ _ _ _ _ (fun a h0 h1=>by rw [jM V Z h1];exact hn a h1)]
 exact FH hj
theorem Ml (s:Rl.St) {n:Nat} (h:MS s.join s.after n) {V:List Int} (hV:Qu V n) (Z:Nat→Nat) (nL:List (List Nat)) (oL:List Nat) (nR:List (List Nat)) (oR:List Nat):
  (iG s n nL oL nR oR (pz V Z V.length) (oI V Z V.length))[pz V Z V.length]?=some 2:=by
 rw [zh s h hV Z,vg _ _ _ _ _ (fun a h0 h1=>by rw [jM V Z h1];have:=su V Z h1;omega),List.getElem?_append_right (by rw [List.length_replicate];exact Nat.le_refl _),List.length_replicate,Nat.sub_self]
 rfl
theorem Mm (s:Rl.St) {n:Nat} (h:MS s.join s.after n) {V:List Int} (hV:Qu V n) (Z:Nat→Nat) (nL:List (List Nat)) (oL:List Nat) (nR:List (List Nat)) (oR:List Nat) {i:Nat} (hi:i < V.length):
  (iG s n nL oL nR oR V.length V)[i]?=(iG s n nL oL nR oR (pz V Z V.length) (oI V Z V.length))[pz V Z i]?:=by
 have e:=zi s h hV (fun _=>0) nL oL nR oR hi
 rw [FD V (Nat.le_refl _),FD V (by omega),ve V _ (Nat.le_refl _),List.take_length] at e
 rw [e,zi s h hV Z nL oL nR oR hi]
end Go.Proofs.YtdlabakleldgaaaGreatDoor
namespace Go.Proofs.YtdlabakleldgaaaGreatDoor
open Go.ChangeShapes Go.WideShapes Go.ChangeAt Go.RowKit
theorem own:ownKnob Tryz.prog.godebug=none:=by kernel_rfl
theorem laidOut:laidOutB Tryz.prog=true:=by kernel_rfl
def tO : List (String × DataW Unit) := [("math/bits.deBruijn32tab", Rows.laid_math_bits_deBruijn32tab)]
theorem TW:(Rows.laid_math_bits_deBruijn32tab:DataW Unit)=Lib.tabData .u8 Td:=by kernel_rfl
theorem FI : Tryz.prog.globalNamed "math/bits.deBruijn32tab" = some 0 := by kernel_rfl
theorem D6 {W:World} (h:laidMetH Tryz.prog tO W):Tz W:=by
 have h':laidMet Tryz.prog tO W:=h
 unfold tO at h'
 rw [TW] at h'
 have hT:=Lib.tabIs_of_head (k:=.u8) (zs:=Td) (t:=136) (e:=5) (n:=32) FI (by kernel_rfl) (by kernel_rfl) (by kernel_rfl) (by kernel_rfl) (by kernel_rfl) h'
 have hc:∀(j:Nat) (v:Int),Td[j]?=some v→W.cell? ⟨0,j,none⟩=some (.int .u8 v):=fun j v hj=>by
  have hl:=(List.getElem?_eq_some_iff.1 hj).1
  have:=hT.cell FI j hl
  rw [List.getD_eq_getElem?_getD,hj,Option.getD_some] at this
  exact this
 exact⟨World.block_lt_of_cell? W ⟨0,0,none⟩ (hc 0 0 rfl),hc⟩
def TY:Obj→Obj
 | .cells _ t frozen=>.cells (Td.map (Value.int .u8)).toArray t frozen
 | o=>o
def rH (P:Program) (os:Os):World:=
 { World.holding P os ⟨#[],#[],[]⟩ with heap:=(World.holding P os ⟨#[],#[],[]⟩).heap.modify 0 TY}
theorem Mr (os:Os) (args:Array Value):laidMet Tryz.prog tO ((rH Tryz.prog os).forCall (fun _ _=>0) ⟨#[],args,[]⟩).memory:=
 laidMet_of_run' 8 (by kernel_rfl) (by kernel_rfl)
theorem FJ {zs:List Int} {l j:Nat} {x:Int} (hj:(zs.take l)[j]?=some x):j < l∧j < zs.length∧zs.getD j 0=x:=by
 rw [List.getElem?_take] at hj
 split at hj
 ·rename_i h
  exact⟨h,(List.getElem?_eq_some_iff.1 hj).1,by rw [List.getD_eq_getElem?_getD,hj];rfl⟩
 ·cases hj
theorem Ih {H:Type} {enc:TypeId × Value→H} {W:World} {v:Value} {d:DataW H} {p:List MemPlace} {b0:Nat} (hv:Value.okWide Tryz.prog W .any b0 28 v)
  (h:DataW.Trod enc Tryz.prog W 0 (fun _=>true) true 28 v d p):∃(a:Option Addr) (n cap:Nat) (L:List Int),v=.slice a n cap∧Iw W a n L∧n≤maxLen:=by
 obtain⟨a,len,cap,rfl⟩:=okWide_slice Tryz.underlying28 hv
 obtain⟨fuel,hf⟩:=h
 rcases open_ints Tryz.underlying28 Tryz.underlying3 (by kernel_rfl) hf with ⟨e,_⟩ | ⟨y,l,c,zs,e,_,hl,hm,hz,_,hcell,hwz⟩
 ·have e2:[Value.slice a len cap]=[Value.slice none 0 0]:=e
  injection e2 with e2
  rw [e2]
  exact⟨none,0,0,[],rfl,⟨rfl,0,0,fun h=>absurd h (Nat.lt_irrefl _),fun j x hj=>by simp at hj⟩,Nat.zero_le _⟩
 ·have e2:[Value.slice a len cap]=[Value.slice (some y) l c]:=e
  injection e2 with e2
  rw [e2]
  have hz':zs.length=c:=by simpa using hz
  refine⟨some y,l,c,zs.take l,rfl,⟨by rw [List.length_take];omega,?_⟩,Nat.le_trans hl hm⟩
  by_cases h0:0 < l
  ·obtain⟨b,off,rfl,hcc⟩:=ints_at hcell (by omega)
   refine⟨b,off,fun _=>⟨rfl,World.block_lt_of_cell? W _ (hcc 0 (by omega))⟩,fun j x hj=>?_⟩
   obtain⟨_,h2,h3⟩:=FJ hj
   rw [hcc j h2,h3]
  ·exact⟨0,0,fun h=>absurd h h0,fun j x hj=>by have:=(FJ hj).1;omega⟩
theorem Mv {H:Type} {enc:TypeId × Value→H} {W:World} {v:Value} {d:DataW H} {p:List MemPlace} {b0:Nat} (hv:Value.okWide Tryz.prog W .any b0 22 v)
  (h:DataW.Trod enc Tryz.prog W 0 (fun _=>true) true 22 v d p):∃(a:Option Addr) (n cap:Nat) (L:List Nat),v=.slice a n cap∧Bw W a n L∧n≤maxLen:=by
 obtain⟨a,len,cap,rfl⟩:=okWide_slice Tryz.underlying22 hv
 obtain⟨fuel,hf⟩:=h
 obtain⟨a',n,c,L,e,h1,h2,h3⟩:=iH hf
 have e2:[Value.slice a len cap]=[Value.slice a' n c]:=e
 injection e2 with e2
 exact⟨a',n,c,L,e2,h1,Nat.le_trans h2 h3⟩
end Go.Proofs.YtdlabakleldgaaaGreatDoor
