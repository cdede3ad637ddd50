/- Sv Vl -/
import Derived.Test.YtchaoonefiamdaaGreatDoorX47
import Derived.Test.YtchaoonefiamdaaGreatDoorRows
import Derived.Lib.LaidTab
import Derived.ProofKit
import Derived.OpenShut
import Derived.ChangeOld
import Derived.Below
import Derived.Deep.DeepHandedRow
import Derived.Deep.Grids
import Derived.ChangeMaps5
import Derived.ChangeSlices
namespace Go.Proofs.YtchaoonefiamdaaGreatDoor
open Go.ChangeShapes Go.WideShapes Go.ChangeAt Go.RowKit
set_option linter.unusedVariables false
theorem own:ownKnob Tryz.prog.godebug=none:=by kernel_rfl
theorem laidOut:laidOutB Tryz.prog=true:=by kernel_rfl
def tabList : List (String × DataW Unit) := [("math/bits.deBruijn32tab", Rows.laid_math_bits_deBruijn32tab)]
theorem tab_eq:(Rows.laid_math_bits_deBruijn32tab:DataW Unit)=Lib.tabData .u8 tzL:=by kernel_rfl
theorem tz_glob : Tryz.prog.globalNamed "math/bits.deBruijn32tab" = some 0 := by kernel_rfl
theorem tz_of_laid {W:World} (h:laidMetH Tryz.prog tabList W):Tz W:=by
 have h':laidMet Tryz.prog tabList W:=h
 unfold tabList at h'
 rw [tab_eq] at h'
 have hT:=Lib.tabIs_of_head (k:=.u8) (zs:=tzL) (t:=123) (e:=5) (n:=32) tz_glob (by kernel_rfl) (by kernel_rfl) (by kernel_rfl) (by kernel_rfl) (by kernel_rfl) h'
 have hc:∀ (j:Nat) (v:Int),tzL[j]?=some v→W.cell? ⟨0,j,none⟩=some (.int .u8 v):=fun j v hj=>by
  have hl:=(List.getElem?_eq_some_iff.1 hj).1
  have:=hT.cell tz_glob j hl
  rw [List.getD_eq_getElem?_getD,hj,Option.getD_some] at this
  exact this
 exact⟨World.block_lt_of_cell? W ⟨0,0,none⟩ (hc 0 0 rfl),hc⟩
def layTab:Obj→Obj
 | .cells _ t frozen=>.cells (tzL.map (Value.int .u8)).toArray t frozen
 | o=>o
def laidWorld (P:Program) (os:Os):World :=
 { World.holding P os ⟨#[],#[],[]⟩ with heap:=(World.holding P os ⟨#[],#[],[]⟩).heap.modify 0 layTab }
theorem laid_met (os:Os) (args:Array Value):laidMet Tryz.prog tabList ((laidWorld Tryz.prog os).forCall (fun _ _=>0) ⟨#[],args,[]⟩).memory :=
 laidMet_of_run' 8 (by kernel_rfl) (by kernel_rfl)
end Go.Proofs.YtchaoonefiamdaaGreatDoor
namespace Go.Proofs.YtchaoonefiamdaaGreatDoor
open Go.ChangeShapes Go.WideShapes Go.ChangeAt Go.RowKit
set_option linter.unusedVariables false
namespace Lo9
def Uw (w:World) (a:Option Addr) (n:Nat) (L:List Nat):Prop:=L.length=n∧(∀ x∈L,x < 256)∧∃ b off,(0 < n→a=some ⟨b,off,none⟩∧b < w.heap.size)∧∀ (j x:Nat),L[j]?=some x→w.cell? ⟨b,off+j,none⟩=some (.int .u8 (x:Int))
theorem Uw.at {w:World} {a:Option Addr} {n:Nat} {L:List Nat} (h:Uw w a n L) (h0:0 < n):∃ b off,a=some ⟨b,off,none⟩∧b < w.heap.size∧∀ w',Only (fun _=>False) w w'→∀ (j x:Nat),L[j]?=some x→w'.cell? ⟨b,off+j,none⟩=some (.int .u8 (x:Int)):=by
 obtain⟨_,_,b,off,h1,h2⟩:=h
 exact⟨b,off,(h1 h0).1,(h1 h0).2,fun w' ho j x hj=>(World.cell?_of_block (a:=⟨b,off+j,none⟩) (ho.block b (h1 h0).2 (fun h=>h))).trans (h2 j x hj)⟩
theorem take_zs {zs:List Int} {l j:Nat} {x:Int} (hj:(zs.take l)[j]?=some x):j < l∧j < zs.length∧zs.getD j 0=x:=by
 rw [List.getElem?_take] at hj
 split at hj
 ·rename_i h
  exact⟨h,(List.getElem?_eq_some_iff.1 hj).1,by rw [List.getD_eq_getElem?_getD,hj];rfl⟩
 ·cases hj
set_option maxRecDepth 100000 in
theorem nums_view {H:Type} {enc:TypeId × Value→H} {W:World} {v:Value} {d:DataW H} {p:List MemPlace} {b0:Nat} (hv:Value.okWide Tryz.prog W .any b0 23 v)
  (h:DataW.Trod enc Tryz.prog W 0 (fun _=>true) true 23 v d p):∃ (a:Option Addr) (n cap:Nat) (L:List Int),v=.slice a n cap∧Iw W a n L:=by
 obtain⟨a,len,cap,rfl⟩:=okWide_slice Tryz.underlying23 hv
 obtain⟨fuel,hf⟩:=h
 rcases open_ints Tryz.underlying23 Tryz.underlying3 (by kernel_rfl) hf with ⟨e,_⟩ | ⟨y,l,c,zs,e,_,hl,hm,hz,_,hcell,hwz⟩
 ·have e2:[Value.slice a len cap]=[Value.slice none 0 0]:=e
  injection e2 with e2
  rw [e2]
  exact⟨none,0,0,[],rfl,rfl,0,0,fun h=>absurd h (Nat.lt_irrefl _),fun j x hj=>by simp at hj⟩
 ·have e2:[Value.slice a len cap]=[Value.slice (some y) l c]:=e
  injection e2 with e2
  rw [e2]
  have hz':zs.length=c:=by simpa using hz
  refine⟨some y,l,c,zs.take l,rfl,by rw [List.length_take];omega,?_⟩
  by_cases h0:0 < l
  ·obtain⟨b,off,rfl,hcc⟩:=ints_at hcell (by omega)
   refine⟨b,off,fun _=>⟨rfl,World.block_lt_of_cell? W _ (hcc 0 (by omega))⟩,fun j x hj=>?_⟩
   obtain⟨_,h2,h3⟩:=take_zs hj
   rw [hcc j h2,h3]
  ·exact⟨0,0,fun h=>absurd h h0,fun j x hj=>by have:=(take_zs hj).1;omega⟩
set_option maxRecDepth 100000 in
theorem u8s_view {H:Type} {enc:TypeId × Value→H} {W:World} {v:Value} {d:DataW H} {p:List MemPlace} {b0:Nat} (hv:Value.okWide Tryz.prog W .any b0 22 v)
  (h:DataW.Trod enc Tryz.prog W 0 (fun _=>true) true 22 v d p):∃ (a:Option Addr) (n cap:Nat) (L:List Nat),v=.slice a n cap∧Uw W a n L∧n≤cap∧cap≤maxLen:=by
 obtain⟨a,len,cap,rfl⟩:=okWide_slice Tryz.underlying22 hv
 obtain⟨fuel,hf⟩:=h
 rcases open_ints Tryz.underlying22 Tryz.underlying5 (by kernel_rfl) hf with ⟨e,_⟩ | ⟨y,l,c,zs,e,_,hl,hm,hz,_,hcell,hwz⟩
 ·have e2:[Value.slice a len cap]=[Value.slice none 0 0]:=e
  injection e2 with e2
  rw [e2]
  exact⟨none,0,0,[],rfl,⟨rfl,(fun x hx=>by cases hx),0,0,fun h=>absurd h (Nat.lt_irrefl _),fun j x hj=>by simp at hj⟩,Nat.le_refl _,Nat.zero_le _⟩
 ·have e2:[Value.slice a len cap]=[Value.slice (some y) l c]:=e
  injection e2 with e2
  rw [e2]
  have hz':zs.length=c:=by simpa using hz
  have hb:=range_u8 hwz
  refine⟨some y,l,c,(zs.take l).map Int.toNat,rfl,⟨by rw [List.length_map,List.length_take];omega,fun x hx=>?_,?_⟩,hl,hm⟩
  ·obtain⟨z,hz1,rfl⟩:=List.mem_map.1 hx
   obtain⟨j,hj⟩:=List.mem_iff_getElem?.1 hz1
   obtain⟨_,h2,h3⟩:=take_zs hj
   have:=hb j
   rw [←List.getD_eq_getElem?_getD,h3] at this
   omega
  ·by_cases h0:0 < l
   ·obtain⟨b,off,rfl,hcc⟩:=ints_at hcell (by omega)
    refine⟨b,off,fun _=>⟨rfl,World.block_lt_of_cell? W _ (hcc 0 (by omega))⟩,fun j x hj=>?_⟩
    rw [List.getElem?_map] at hj
    cases hq:(zs.take l)[j]? with
    | none=>rw [hq] at hj;cases hj
    | some z =>
     rw [hq] at hj
     injection hj with hj
     obtain⟨_,h2,h3⟩:=take_zs hq
     have:=hb j
     rw [←List.getD_eq_getElem?_getD,h3] at this
     rw [hcc j h2,h3,←hj]
     have e:((z.toNat:Nat):Int)=z:=by omega
     rw [e]
   ·refine⟨0,0,fun h=>absurd h h0,fun j x hj=>?_⟩
    have hl0:l=0:=by omega
    rw [hl0] at hj
    simp at hj
end Lo9
end Go.Proofs.YtchaoonefiamdaaGreatDoor
