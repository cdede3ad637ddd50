/- Sv -/
import Derived.Test.YtdlabakleldgaaaGreatDoorRows
import Derived.Test.YtdlabakleldgaaaGreatDoorZ36
import Derived.Test.YtdlabakleldgaaaGreatDoorZ46
import Derived.Test.YtdlabakleldgaaaGreatDoorZ16
import Derived.Lib.LaidTab
import Derived.ChangeOld
import Derived.Below
import Derived.Deep.DeepHandedRow
import Derived.Deep.Grids
import Derived.ChangeSlices
set_option linter.unusedVariables false
set_option linter.unusedSimpArgs false
set_option maxRecDepth 100000
set_option maxHeartbeats 8000000
namespace Go.Proofs.YtdlabakleldgaaaGreatDoor
open Go.ChangeShapes Go.WideShapes Go.ChangeAt Go.RowKit
theorem own:ownKnob Tryz.prog.godebug=none:=by kernel_rfl
theorem laidOut:laidOutB Tryz.prog=true:=by kernel_rfl
def tO : List (String × DataW Unit) := [("math/bits.deBruijn32tab", Rows.laid_math_bits_deBruijn32tab)]
theorem TW:(Rows.laid_math_bits_deBruijn32tab:DataW Unit)=Lib.tabData .u8 Td:=by kernel_rfl
theorem FI : Tryz.prog.globalNamed "math/bits.deBruijn32tab" = some 0 := by kernel_rfl
theorem D6 {W:World} (h:laidMetH Tryz.prog tO W):Tz W:=by
 have h':laidMet Tryz.prog tO W:=h
 unfold tO at h'
 rw [TW] at h'
 have hT:=Lib.tabIs_of_head (k:=.u8) (zs:=Td) (t:=136) (e:=5) (n:=32) FI (by kernel_rfl) (by kernel_rfl) (by kernel_rfl) (by kernel_rfl) (by kernel_rfl) h'
 have hc:∀(j:Nat) (v:Int),Td[j]?=some v→W.cell? ⟨0,j,none⟩=some (.int .u8 v):=fun j v hj=>by
  have hl:=(List.getElem?_eq_some_iff.1 hj).1
  have:=hT.cell FI j hl
  rw [List.getD_eq_getElem?_getD,hj,Option.getD_some] at this
  exact this
 exact⟨World.block_lt_of_cell? W ⟨0,0,none⟩ (hc 0 0 rfl),hc⟩
def TY:Obj→Obj
 | .cells _ t frozen=>.cells (Td.map (Value.int .u8)).toArray t frozen
 | o=>o
def rH (P:Program) (os:Os):World:=
 { World.holding P os ⟨#[],#[],[]⟩ with heap:=(World.holding P os ⟨#[],#[],[]⟩).heap.modify 0 TY}
theorem Mr (os:Os) (args:Array Value):laidMet Tryz.prog tO ((rH Tryz.prog os).forCall (fun _ _=>0) ⟨#[],args,[]⟩).memory:=
 laidMet_of_run' 8 (by kernel_rfl) (by kernel_rfl)
theorem FJ {zs:List Int} {l j:Nat} {x:Int} (hj:(zs.take l)[j]?=some x):j < l∧j < zs.length∧zs.getD j 0=x:=by
 rw [List.getElem?_take] at hj
 split at hj
 ·rename_i h
  exact⟨h,(List.getElem?_eq_some_iff.1 hj).1,by rw [List.getD_eq_getElem?_getD,hj];rfl⟩
 ·cases hj
theorem Ih {H:Type} {enc:TypeId × Value→H} {W:World} {v:Value} {d:DataW H} {p:List MemPlace} {b0:Nat} (hv:Value.okWide Tryz.prog W .any b0 28 v)
  (h:DataW.Trod enc Tryz.prog W 0 (fun _=>true) true 28 v d p):∃(a:Option Addr) (n cap:Nat) (L:List Int),v=.slice a n cap∧Iw W a n L∧n≤maxLen:=by
 obtain⟨a,len,cap,rfl⟩:=okWide_slice Tryz.underlying28 hv
 obtain⟨fuel,hf⟩:=h
 rcases open_ints Tryz.underlying28 Tryz.underlying3 (by kernel_rfl) hf with ⟨e,_⟩ | ⟨y,l,c,zs,e,_,hl,hm,hz,_,hcell,hwz⟩
 ·have e2:[Value.slice a len cap]=[Value.slice none 0 0]:=e
  injection e2 with e2
  rw [e2]
  exact⟨none,0,0,[],rfl,⟨rfl,0,0,fun h=>absurd h (Nat.lt_irrefl _),fun j x hj=>by simp at hj⟩,Nat.zero_le _⟩
 ·have e2:[Value.slice a len cap]=[Value.slice (some y) l c]:=e
  injection e2 with e2
  rw [e2]
  have hz':zs.length=c:=by simpa using hz
  refine⟨some y,l,c,zs.take l,rfl,⟨by rw [List.length_take];omega,?_⟩,Nat.le_trans hl hm⟩
  by_cases h0:0 < l
  ·obtain⟨b,off,rfl,hcc⟩:=ints_at hcell (by omega)
   refine⟨b,off,fun _=>⟨rfl,World.block_lt_of_cell? W _ (hcc 0 (by omega))⟩,fun j x hj=>?_⟩
   obtain⟨_,h2,h3⟩:=FJ hj
   rw [hcc j h2,h3]
  ·exact⟨0,0,fun h=>absurd h h0,fun j x hj=>by have:=(FJ hj).1;omega⟩
theorem Mv {H:Type} {enc:TypeId × Value→H} {W:World} {v:Value} {d:DataW H} {p:List MemPlace} {b0:Nat} (hv:Value.okWide Tryz.prog W .any b0 22 v)
  (h:DataW.Trod enc Tryz.prog W 0 (fun _=>true) true 22 v d p):∃(a:Option Addr) (n cap:Nat) (L:List Nat),v=.slice a n cap∧Bw W a n L∧n≤maxLen:=by
 obtain⟨a,len,cap,rfl⟩:=okWide_slice Tryz.underlying22 hv
 obtain⟨fuel,hf⟩:=h
 obtain⟨a',n,c,L,e,h1,h2,h3⟩:=iH hf
 have e2:[Value.slice a len cap]=[Value.slice a' n c]:=e
 injection e2 with e2
 exact⟨a',n,c,L,e2,h1,Nat.le_trans h2 h3⟩
end Go.Proofs.YtdlabakleldgaaaGreatDoor
