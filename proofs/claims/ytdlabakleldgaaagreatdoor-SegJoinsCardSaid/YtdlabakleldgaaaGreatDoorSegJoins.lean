/-
  stanzalaw06.SegJoins returns true at every plan, every slice of ints and every slice of uint8, which read afterwards as they read before; math/bits' table is as the program's text lays it (the card ties it).
-/
import Derived.Test.YtdlabakleldgaaaGreatDoorCards
import Derived.Test.YtdlabakleldgaaaGreatDoorTie
import Derived.Test.YtdlabakleldgaaaGreatDoorZ52
import Derived.Test.YtdlabakleldgaaaGreatDoorZ51
set_option linter.unusedVariables false
set_option linter.unusedSimpArgs false
set_option maxRecDepth 100000
set_option maxHeartbeats 8000000
namespace Go.Proofs.YtdlabakleldgaaaGreatDoor.segJoins
open Go.ChangeShapes Go.WideShapes Go.ChangeAt Go.RowKit
theorem walk {w:World} (c jo af:Nat) (aT:Option Addr) (nT cT:Nat) (T:List Nat) (aR:Option Addr) (nR cR:Nat) (rs:List Pr) (a:Option Addr) (n k:Nat) (L:List Int) (a':Option Addr) (n' k':Nat) (L':List Nat) (hc:c≤255) (hT:Bw w aT nT T) (hR:Rw w aR nR rs) (hB:Iw w a n L) (hD:Bw w a' n' L') (hz:Tz w) (h1:n≤maxLen) (h2:n'≤maxLen):Calls Tryz.prog 4 #[jd c jo af aT nT cT aR nR cR,.slice a n k,.slice a' n' k'] w fun e w'=>e=.returned (.bool true)∧Below w.heap.size w w':=
 (zk c jo af aT nT cT T aR nR cR rs a n k L a' n' k' L' w hc hT hR hB hD hz h1 h2).mono fun e w' ⟨he,ho⟩=>⟨he,ho.below (Nat.le_refl _) (fun _ h=>h.elim)⟩
theorem contract (H:Type) (enc:TypeId × Value→H) (W:World) (base:Nat) (args:Array Value) (ds gs:List (DataW H)) (before:List MemPlace)
  (hval:∀(j:Nat) t v,Tryz.f4.params[j]?=some t→args[j]?=some v→Value.okWide Tryz.prog W .any base t v)
  (hW:DataW.Whole enc Tryz.prog Tryz.f4.params.toList Rows.segJoinsSpec.vars false W args.toList ds gs before) (hL:laidMetH Tryz.prog Rows.segJoinsRow.laid W):
  Calls Tryz.prog 4 args W fun e W'=>∃v,e=.returned v∧Rows.segJoinsSpec.post enc Tryz.prog Tryz.f4 false true false false W args v W':=by
 have hW':=hW
 obtain⟨p,q,hA0,hV,rfl,hfz,hnd⟩:=hW
 have hA:DataW.TrodAll enc Tryz.prog W 0 (fun _=>true) true Tryz.f4.params.toList args.toList ds p:=hA0
 rw [Tryz.params4] at hA hval
 obtain⟨v0,vs0,d0,ds0,p0,q0,hargs,rfl,rfl,h0,r0⟩:=trodAll_cons hA
 obtain⟨v1,vs1,d1,ds1,p1,q1,rfl,rfl,rfl,h1,r1⟩:=trodAll_cons r0
 obtain⟨v2,vs2,d2,ds2,p2,q2,rfl,rfl,rfl,h2,r2⟩:=trodAll_cons r1
 obtain⟨rfl,rfl,rfl⟩:=trodAll_nil r2
 obtain rfl:args=#[v0,v1,v2]:=by cases args;simp_all
 obtain⟨rfl,rfl⟩:=trodVars_none hV
 have k0:=h0
 have lt0:∀x∈p0,x.block < W.heap.size:=by obtain⟨m,hm⟩:=k0;exact DataW.trod_lt m _ _ _ hm
 obtain⟨c0,jo0,af0,aT0,nT0,cT0,T0,aR0,nR0,cR0,rs0,rfl,hc0,abR,abS,hT0,abT,abU,hR0,abV,abW⟩:=Hq (hval 0 25 v0 rfl rfl) h0
 have k1:=h1
 have lt1:∀x∈p1,x.block < W.heap.size:=by obtain⟨m,hm⟩:=k1;exact DataW.trod_lt m _ _ _ hm
 obtain⟨a1,aaP,sM,L1,rfl,hB1⟩:=Ih (hval 1 28 v1 rfl rfl) h1
 have k2:=h2
 have lt2:∀x∈p2,x.block < W.heap.size:=by obtain⟨m,hm⟩:=k2;exact DataW.trod_lt m _ _ _ hm
 obtain⟨a2,aaQ,cap2,L2,rfl,hB2⟩:=Mv (hval 2 22 v2 rfl rfl) h2
 clear hA0
 have hT:=D6 hL
 refine (walk c0 jo0 af0 aT0 nT0 cT0 T0 aR0 nR0 cR0 rs0 a1 aaP sM L1 a2 aaQ cap2 L2 hc0 hT0 hR0 hB1.1 hB2.1 hT hB1.2 hB2.2).mono fun e W' ⟨he,YB⟩=>?_
 subst he
 exact⟨_,rfl,_,_,_,[],_,[],hW',trodAll_mk1 (shut_bool Tryz.underlying4 _),(trodAll_cons_mk (Below.trod laidOut (by kernel_rfl) (of_decide_eq_true (by kernel_rfl)) k0 YB lt0) (trodAll_cons_mk (Below.trod laidOut (by kernel_rfl) (of_decide_eq_true (by kernel_rfl)) k1 YB lt1) (trodAll_cons_mk (Below.trod laidOut (by kernel_rfl) (of_decide_eq_true (by kernel_rfl)) k2 YB lt2) trodAll_mk0))),rfl,YB.frame _,fun h=>by cases h⟩
theorem reads (os:Os) {H:Type} (enc:TypeId × Value→H):∃places,DataW.whole enc Tryz.prog ((rH Tryz.prog os).forCall (fun _ _=>0) ⟨#[],#[.agg #[.int .u8 0,.int .u8 0,.int .u8 0,.slice none 0 0,.slice none 0 0],.slice none 0 0,.slice none 0 0],[]⟩).memory Tryz.f4.params.toList Rows.segJoinsSpec.vars false (#[.agg #[.int .u8 0,.int .u8 0,.int .u8 0,.slice none 0 0,.slice none 0 0],.slice none 0 0,.slice none 0 0]:Array Value).toList 8=some ([.agg [.lit (.int .u8 0),.lit (.int .u8 0),.lit (.int .u8 0),.nil,.nil],.nil,.nil],[],places):=
 ⟨[],by kernel_rfl⟩
theorem lifted (os:Os) (started:os.Started) (H:Type) (enc:TypeId × Value→H) (F:Stop.Interp):
  ReturnsInHanded {} Tryz.checked os 4 .any ((OpenSpec.ofChange Rows.segJoinsSpec).preRow enc Tryz.prog Tryz.f4 Rows.segJoinsRow.domain false Rows.segJoinsRow.laid) (((OpenSpec.ofChange Rows.segJoinsSpec).at F).post enc Tryz.prog Tryz.f4 false true false false):=by
 obtain⟨places,hx⟩:=reads os enc
 refine returnsInHanded_of_row (C:=Tryz.checked) (s:=OpenSpec.ofChange Rows.segJoinsSpec) own started (by kernel_rfl) Tryz.func4
  (witness_row_at (enc:=enc) (C:=Tryz.checked) false (rH Tryz.prog os) #[.agg #[.int .u8 0,.int .u8 0,.int .u8 0,.slice none 0 0,.slice none 0 0],.slice none 0 0,.slice none 0 0] rfl (by kernel_rfl) (by kernel_rfl) (by kernel_rfl)
   (OpenSpec.preRow_of_cond 8 hx (by kernel_rfl) (fun k hk=>by cases hk) (by kernel_rfl) (Mr os _))) ?_
 intro W base args ds gs before hval hW _ _ _ hL _ _
 exact contract H enc W base args ds gs before hval hW hL
theorem said:Rows.SegJoinsSaid:=
 OpenClaim.holds_of_cond 4 Tryz.f4 rfl rfl rfl rfl rfl rfl rfl ⟨rfl,rfl,rfl,rfl,rfl⟩ rfl rfl rfl rfl rfl (by kernel_rfl) Tryz.func4 (by kernel_rfl)
  (of_decide_eq_true (by kernel_rfl)) (by unfold Func.isWrapper;first |(rw [if_pos (by decide+kernel)];kernel_rfl) |(rw [if_neg (by decide+kernel)];exact⟨rfl,rfl⟩))
  (fun os started H enc _ F=>by rw [OpenClaim.pre_eq_preRow];exact lifted os started H enc F)
theorem plain (f : FuncId) (fn : Func) (hf : Tryz.pinned.checked.prog.funcNamed "stanza/stanzalaw06.SegJoins" = some f) (hfn : Tryz.pinned.checked.prog.funcs[f]? = some fn) :
  true=Tryz.pinned.checked.prog.looks []∧∀(j:Nat) t,fn.params[j]?=some t→Tryz.pinned.checked.prog.wantsStandIn t=false:=by
 obtain rfl : f = 4 := Option.some.inj ((show Tryz.prog.funcNamed "stanza/stanzalaw06.SegJoins" = some 4 by kernel_rfl).symm.trans hf) |>.symm
 obtain rfl:fn=Tryz.f4:=(Option.some.inj (Tryz.func4.symm.trans hfn)).symm
 refine⟨by kernel_rfl,fun j t ht=>?_⟩
 rw [Tryz.params4] at ht
 have hm:t∈[25,28,22]:=by simpa using Array.mem_of_getElem? ht
 have hall:([25,28,22].all fun u=>!Tryz.prog.wantsStandIn u)=true:=by kernel_rfl
 exact (show Tryz.prog.wantsStandIn t=false by simpa using List.all_eq_true.1 hall t hm)
theorem card:Rows.SegJoinsCardSaid:=
 Claim7.holds_tied_plain_at .later [] _ _ _ _ said (fun _ h=>by cases h) (by kernel_rfl) (fun _ h=>by cases h) segJoins_row_tie rfl ⟨rfl,rfl⟩ (by kernel_rfl) rfl plain (by kernel_rfl)
end Go.Proofs.YtdlabakleldgaaaGreatDoor.segJoins
namespace Go.Proofs.YtdlabakleldgaaaGreatDoor
theorem segJoinsCard_holds:Rows.SegJoinsCardSaid:=segJoins.card
#print axioms segJoinsCard_holds
end Go.Proofs.YtdlabakleldgaaaGreatDoor
