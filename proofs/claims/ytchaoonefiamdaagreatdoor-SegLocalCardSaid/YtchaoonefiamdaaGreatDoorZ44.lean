/- Sg12 LLw Sk0 Sg6 Sg13 -/
import Derived.Test.YtchaoonefiamdaaGreatDoorZ43
import Derived.Test.YtchaoonefiamdaaGreatDoorZ29
import Derived.Test.YtchaoonefiamdaaGreatDoorZ28
import Derived.Test.YtchaoonefiamdaaGreatDoorZ42
import Derived.Test.YtchaoonefiamdaaGreatDoorZ30
import Derived.Laws.OwnMore
namespace Go.Proofs.YtchaoonefiamdaaGreatDoor
open Go.RowKit Go.Maps
set_option linter.unusedVariables false
set_option linter.unusedSimpArgs false
open Rl (Ex)
theorem results_tmp_row {P:Program} {fn:Func} {p u:Tmp} {ty:TypeId} (h:fn.results=#[.tmp u,.cell p ty]) (tmps:Array Value) (w:World) (g:Nat) (t:TypeId) (cs:Array Value) (fr:Nat × Nat) (d:TypeDesc)
  (hp:tmps.getD p undef=.pointer (some ⟨g,0,none⟩)) (hg:w.heap[g]?=some (.cells cs t fr)) (hu:P.underlying ty=some d) (hd:(match d with | .struct _ | .array _ _=>true | _=>false)=true) (hi:(P.info? ty).map (·.size)=some cs.size)
  {y:Value} (hy:tmps.getD u undef=y):(results fn tmps).run P w=.ok (.tuple #[y,.agg cs]) w:=by
 have hp':tmps[p]?.getD undef=.pointer (some ⟨g,0,none⟩):=by simpa using hp
 have hy':tmps[u]?.getD undef=y:=by simpa using hy
 simp [results,h,hp',hy',asAddr,run_loadVar_row w g t ty cs fr d hg hu hd hi]
def Mac (W:World) (lo mb:Nat) (s:Rl.St) (cl n:Nat) (nL:List (List Nat)) (oL:List Nat) (nR:List (List Nat)) (oR:List Nat):Prop :=
 ∃ bT bD lN lO rN rO rowsL outsL rL rowsR outsR rR,Mz W mb s.join s.after (.slice (some ⟨bT,0,none⟩) cl cl) (.slice (some ⟨bD,0,none⟩) n n) lN lO rN rO∧Ib W bT (s.treat.map (fun x=>clO x cl))∧Ub W bD (s.list.map (·.does))∧L.Ra W lo (.agg #[lN,lO]) rowsL outsL∧L.Hm.Lst nL.length cl (dX nL) (oX oL) rowsL outsL rL∧L.Ra W lo (.agg #[rN,rO]) rowsR outsR∧L.Hm.Lst nR.length cl (dX nR) (oX oR) rowsR outsR rR
theorem Mac.keep {W W':World} {lo mb:Nat} {s:Rl.St} {cl n:Nat} {nL:List (List Nat)} {oL:List Nat} {nR:List (List Nat)} {oR:List Nat} (h:Mac W lo mb s cl n nL oL nR oR) (ho:Only (fun _=>False) W W'):Mac W' lo mb s cl n nL oL nR oR:=by
 obtain⟨bT,bD,lN,lO,rN,rO,rowsL,outsL,rL,rowsR,outsR,rR,h1,h2,h3,h4,h5,h6,h7⟩:=h
 exact⟨bT,bD,lN,lO,rN,rO,rowsL,outsL,rL,rowsR,outsR,rR,(ho.block mb (Array.getElem?_eq_some_iff.1 h1).1 (fun h=>h)).trans h1,h2.keep0 ho,h3.keep0 ho,h4.keep (L_only ho),h5,h6.keep (L_only ho),h7⟩
theorem Mac.low {W:World} {lo lo' mb:Nat} {s:Rl.St} {cl n:Nat} {nL:List (List Nat)} {oL:List Nat} {nR:List (List Nat)} {oR:List Nat} (h:Mac W lo mb s cl n nL oL nR oR) (hl:lo'≤lo):Mac W lo' mb s cl n nL oL nR oR:=by
 obtain⟨bT,bD,lN,lO,rN,rO,rowsL,outsL,rL,rowsR,outsR,rR,h1,h2,h3,h4,h5,h6,h7⟩:=h
 exact⟨bT,bD,lN,lO,rN,rO,rowsL,outsL,rL,rowsR,outsR,rR,h1,h2,h3,h4.low hl,h5,h6.low hl,h7⟩
theorem tag_ne {W:World} {b q:Nat} {c c':Array Value} {t t':TypeId} (h:W.heap[b]?=some (.cells c t (0,0))) (h':W.heap[q]?=some (.cells c' t' (0,0))) (ht:t≠t'):b≠q:=fun e=>by
 subst e
 rw [h] at h'
 injection h' with h'
 injection h' with _ h'
 exact ht h'
theorem Mac.far2 {W:World} {lo mb q:Nat} {s:Rl.St} {cl n:Nat} {nL:List (List Nat)} {oL:List Nat} {nR:List (List Nat)} {oR:List Nat} {c:Array Value} (h:Mac W lo mb s cl n nL oL nR oR) (hq:W.heap[q]?=some (.cells c 32 (0,0))) (hl:q < lo) (u v:Value):Mac ((W.setCell ⟨q,0,none⟩ u).setCell ⟨q,1,none⟩ v) lo mb s cl n nL oL nR oR:=by
 obtain⟨bT,bD,lN,lO,rN,rO,rowsL,outsL,rL,rowsR,outsR,rR,h1,h2,h3,h4,h5,h6,h7⟩:=h
 have n1:=tag_ne h1 hq (by decide)
 have n2:=tag_ne h2 hq (by decide)
 have n3:=tag_ne h3 hq (by decide)
 have ho:L.Only (fun b=>b=q) W ((W.setCell ⟨q,0,none⟩ u).setCell ⟨q,1,none⟩ v):=((L.Only.refl (fun b=>b=q) W).setCell (p:=⟨q,0,none⟩) rfl u).setCell (p:=⟨q,1,none⟩) rfl v
 exact⟨bT,bD,lN,lO,rN,rO,rowsL,outsL,rL,rowsR,outsR,rR,(Below.heap_setCell _ _ _ _ n1).trans ((Below.heap_setCell _ _ _ _ n1).trans h1),(Below.heap_setCell _ _ _ _ n2).trans ((Below.heap_setCell _ _ _ _ n2).trans h2),(Below.heap_setCell _ _ _ _ n3).trans ((Below.heap_setCell _ _ _ _ n3).trans h3),h4.stay ho (fun b hb=>by subst hb;exact hl),h5,h6.stay ho (fun b hb=>by subst hb;exact hl),h7⟩
theorem mac_made {w:World} {s:Rl.St} {cl n:Nat} {nL:List (List Nat)} {oL:List Nat} {nR:List (List Nat)} {oR:List Nat} {e:Ending} {w':World} (h:mkP w s cl n nL oL nR oR e w'):∃ mb,e=.returned (.tuple #[.pointer (some ⟨mb,0,none⟩),.int .i64 0])∧Mac w' w.heap.size mb s cl n nL oL nR oR∧Only (fun _=>False) w w':=by
 obtain⟨mb,bT,bD,lN,lO,rN,rO,rowsL,outsL,rL,rowsR,outsR,rR,h0,h1,h2,h3,h4,h5,h6,h7,h8⟩:=h
 exact⟨mb,h0,⟨bT,bD,lN,lO,rN,rO,rowsL,outsL,rL,rowsR,outsR,rR,h1,h2,h3,h4,h5,h6,h7⟩,h8⟩
set_option maxRecDepth 100000 in
set_option maxHeartbeats 8000000 in
theorem segRead_any (S:ByteArray) (s:Rl.St) (cl n:Nat) (nL:List (List Nat)) (oL:List Nat) (nR:List (List Nat)) (oR:List Nat) (w:World) (hr:rd S (.ok s)) (hcl:cl=s.cls.length) (hn:n=s.list.length) (h0:0 < cl) (hS:∀ r∈s.list,Rl.Small r.left∧Rl.Small r.right∧Sok r.left∧Sok r.right) (hlf:∀ r∈s.list,∃ op t,r.right=.mk op t []) (hD:∀ r∈s.list,Au.dp r.left≤1000000∧Au.dp r.right≤1000000) (hL:Au.make (s.list.map (·.left)) (cl:Int)=.ok (nL,oL)) (hR:Au.make (s.list.map (·.right)) (cl:Int)=.ok (nR,oR)) :
  Calls Tryz.prog 6 #[.string S] w fun e w'=>∃ mb,e=.returned (.tuple #[.pointer (some ⟨mb,0,none⟩),.agg #[.int .i64 0,.int .i64 0]])∧Mac w' (w.heap.size+1) mb s cl n nL oL nR oR∧Only (fun _=>False) w w':=by
 have HPS:Hid (∀ W',Calls Tryz.prog 9 #[.string S] W' fun e w'=>∃ v B,e=.returned (.tuple #[v,.agg #[.int .i64 0,.int .i64 0]])∧Rv w' B v s∧Only (fun _=>False) W' w'):=fun W'=>(parse_all S (.ok s) W' hr).mono (by
  rintro e w' ⟨⟨v,B,h1,_,h2⟩,h3⟩
  exact⟨v,B,h1,h2,h3⟩)
 have HMK:Hid (∀ W' v B,Rv W' B v s→Calls Tryz.prog 10 #[v] W' fun e w'=>∃ mb,e=.returned (.tuple #[.pointer (some ⟨mb,0,none⟩),.int .i64 0])∧Mac w' W'.heap.size mb s cl n nL oL nR oR∧Only (fun _=>False) W' w'):=fun W' v B hv=>(segMake_any s B v cl n nL oL nR oR W' hv hcl hn h0 hS hlf hD hL hR).mono (fun e w' h=>mac_made h)
 clear hr hcl hn h0 hS hlf hD hL hR
 go_enter Tryz.func6,Tryz.ntmps6
 go_upto_region 1 with fail
 obtain⟨qb,hqb⟩:∃ x,x=w.heap.size:=⟨_,rfl⟩
 obtain⟨w0,hw0⟩:∃ x,x=w.alloc (.cells #[.int .i64 0,.int .i64 0] 32):=⟨_,rfl⟩
 have H0:Hid (w0.heap[qb]?=some (.cells #[.int .i64 0,.int .i64 0] 32 (0,0))∧Only (fun _=>False) w w0∧w0.heap.size=w.heap.size+1∧qb=w.heap.size):=by rw [hw0,hqb];exact⟨heap_alloc_new _ _,(Only.refl _ _).alloc _,alloc_size _ _,rfl⟩
 rw [←hw0,←hqb]
 clear hw0 hqb
 go_wp2_with fail
 refine Calls.mono (HPS.out _) ?_
 rintro e w1 ⟨v,B,rfl,hrv,ho1⟩
 have hrv':=hrv
 obtain⟨aC,aT,aL,cC,cT,cL,rfl,-⟩:=hrv
 have H1:Hid (Rv w1 B (.agg #[.slice aC s.cls.length cC,.int .u32 s.join,.int .u32 s.after,.slice aT s.treat.length cT,.slice aL s.list.length cL]) s∧Only (fun _=>False) w0 w1):=⟨hrv',ho1⟩
 obtain⟨u0,hu0⟩:∃ x,x=s.cls.length:=⟨_,rfl⟩
 obtain⟨u1,hu1⟩:∃ x,x=s.join:=⟨_,rfl⟩
 obtain⟨u2,hu2⟩:∃ x,x=s.after:=⟨_,rfl⟩
 obtain⟨u3,hu3⟩:∃ x,x=s.treat.length:=⟨_,rfl⟩
 obtain⟨u4,hu4⟩:∃ x,x=s.list.length:=⟨_,rfl⟩
 rw [←hu0,←hu1,←hu2,←hu3,←hu4] at H1 ⊢
 clear hrv' ho1 hu0 hu1 hu2 hu3 hu4
 go_upto_region 2 with fail
 obtain⟨R5,hR5⟩:∃ x,x=w1.heap.size:=⟨_,rfl⟩
 obtain⟨F2,hF2⟩:∃ x,x=w1.heap.size+1:=⟨_,rfl⟩
 obtain⟨w2,hw2⟩:∃ x,x=(w1.alloc (.cells #[.slice aC u0 cC,.int .u32 u1,.int .u32 u2,.slice aT u3 cT,.slice aL u4 cL] 45)).alloc (.cells #[.int .i64 0,.int .i64 0] 32):=⟨_,rfl⟩
 have H2:Hid (Xr w2 R5 (.slice aC u0 cC) (.int .u32 u1) (.int .u32 u2) (.slice aT u3 cT) (.slice aL u4 cL)∧w2.heap[F2]?=some (.cells #[.int .i64 0,.int .i64 0] 32 (0,0))∧Only (fun _=>False) w1 w2):=by
  rw [hw2,hR5,hF2]
  exact⟨(Xr.new w1 _ _ _ _ _).alloc _,heap_alloc2_new w1 _ _,((Only.refl _ _).alloc _).alloc _⟩
 rw [←hw2,←hF2,←hR5]
 clear hw2 hF2 hR5
 have r0:=H2.out.1.c0
 have r1:=H2.out.1.c1
 have r2:=H2.out.1.c2
 have r3:=H2.out.1.c3
 have r4:=H2.out.1.c4
 have lR:R5 < w2.heap.size:=(Array.getElem?_eq_some_iff.1 H2.out.1).1
 have f0:w2.cell? ⟨F2,0,none⟩=some (.int .i64 0):=cell_blk H2.out.2.1
 have lF:F2 < w2.heap.size:=(Array.getElem?_eq_some_iff.1 H2.out.2.1).1
 have HRV:Hid (Rv w2 B (.agg #[.slice aC u0 cC,.int .u32 u1,.int .u32 u2,.slice aT u3 cT,.slice aL u4 cL]) s):=H1.out.1.only H2.out.2.2 (fun _ _ h=>h)
 go_wp2_with fail
 refine Calls.mono (HMK.out _ _ _ HRV.out) ?_
 rintro e w3 ⟨mb,rfl,hmac,ho3⟩
 have hq:w3.heap[qb]?=some (.cells #[.int .i64 0,.int .i64 0] 32 (0,0)):=((H1.out.2.trans (H2.out.2.2.trans ho3)).block qb (Array.getElem?_eq_some_iff.1 H0.out.1).1 (fun h=>h)).trans H0.out.1
 have H3:Hid (Mac w3 w2.heap.size mb s cl n nL oL nR oR∧Only (fun _=>False) w w3∧w3.heap[qb]?=some (.cells #[.int .i64 0,.int .i64 0] 32 (0,0))∧w.heap.size+1≤w2.heap.size):=⟨hmac,H0.out.2.1.trans (H1.out.2.trans (H2.out.2.2.trans ho3)),hq,by rw [←H0.out.2.2.1];exact (H1.out.2.trans H2.out.2.2).size⟩
 have x0:w3.cell? ⟨qb,0,none⟩=some (.int .i64 0):=cell_blk hq
 have x1:w3.cell? ⟨qb,1,none⟩=some (.int .i64 0):=cell_blk hq
 have z0:w3.frozen? ⟨qb,0,none⟩=false:=fz_blk hq 0
 have z1:w3.frozen? ⟨qb,1,none⟩=false:=fz_blk hq 1
 have lq:qb < w3.heap.size:=(Array.getElem?_eq_some_iff.1 hq).1
 clear hmac ho3 hq r0 r1 r2 r3 r4 lR f0 lF
 go_wp2_with fail
 refine bodyPost_ret (v:=.tuple #[.pointer (some ⟨mb,0,none⟩),.agg #[.int .i64 0,.int .i64 0]]) (results_tmp_row (p:=3) (u:=2) (ty:=32) rfl _ _ qb 32 #[.int .i64 0,.int .i64 0] (0,0) _ rfl (heap_setCell_at (k:=1) (heap_setCell_at (k:=0) H3.out.2.2.1 _) _) Tryz.underlying32 rfl (by kernel_rfl) rfl) rfl ⟨mb,rfl,?_,?_⟩
 ·exact (H3.out.1.far2 H3.out.2.2.1 (by have:=H0.out.2.2.2;have:=H3.out.2.2.2;omega) _ _).low H3.out.2.2.2
 ·have hqw:w.heap.size≤qb:=Nat.le_of_eq H0.out.2.2.2.symm
  exact (H3.out.2.1.setNew (p:=⟨qb,0,none⟩) hqw _).setNew (p:=⟨qb,1,none⟩) hqw _
end Go.Proofs.YtchaoonefiamdaaGreatDoor
namespace Go.Proofs.YtchaoonefiamdaaGreatDoor.L
set_option linter.unusedVariables false
set_option linter.unusedSimpArgs false
namespace Hm
def dR (rows:List (List Nat)) (s c:Nat):Nat:=(rows[s]?.getD [])[c]?.getD 0
def oR (outs:List Nat) (s:Nat):Nat:=outs[s]?.getD 0
structure Ok (rows:List (List Nat)) (outs:List Nat) (k:Nat):Prop where
 pos:0 < rows.length
 olen:outs.length=rows.length
 rlen:∀ (i:Nat) (row:List Nat),rows[i]?=some row→row.length=k
 lt:∀ (i:Nat) (row:List Nat),rows[i]?=some row→∀ x∈row,x < rows.length
theorem Ok.d {rows:List (List Nat)} {outs:List Nat} {k:Nat} (h:Ok rows outs k) {s c:Nat} (hs:s < rows.length) (hc:c < k):∃ row x,rows[s]?=some row∧row[c]?=some x∧dR rows s c=x∧x < rows.length:=by
 have e:rows[s]?=some (rows[s]'hs):=List.getElem?_eq_getElem hs
 have hl:=h.rlen s _ e
 have e2:(rows[s]'hs)[c]?=some ((rows[s]'hs)[c]'(by omega)):=List.getElem?_eq_getElem _
 exact⟨_,_,e,e2,by unfold dR;rw [e];show (rows[s]'hs)[c]?.getD 0=_;rw [e2];rfl,h.lt s _ e _ (List.getElem_mem _)⟩
theorem Ok.dlt {rows:List (List Nat)} {outs:List Nat} {k:Nat} (h:Ok rows outs k):∀ s c,s < rows.length→c < k→dR rows s c < rows.length:=fun s c hs hc=>by
 obtain⟨row,x,_,_,e,hx⟩:=h.d hs hc
 rw [e];exact hx
theorem Ok.o {rows:List (List Nat)} {outs:List Nat} {k:Nat} (h:Ok rows outs k) {s:Nat} (hs:s < rows.length):outs[s]?=some (oR outs s):=by
 unfold oR
 have e:outs[s]?=some (outs[s]'(by rw [h.olen];exact hs)):=List.getElem?_eq_getElem _
 rw [e];rfl
theorem Ok.fold {rows:List (List Nat)} {outs:List Nat} {k:Nat} (h:Ok rows outs k):∀ (w:List Nat),(∀ c∈w,c < k)→∀ s,s < rows.length→w.foldl (dR rows) s < rows.length
 | [],_,s,hs=>hs
 | c::w,hw,s,hs=>Ok.fold h w (fun x hx=>hw x (by simp [hx])) _ (h.dlt s c hs (hw c (by simp)))
theorem Lst.ok {n k:Nat} {d:Nat→Nat→Nat} {o:Nat→Nat} {rows:List (List Nat)} {outs r:List Nat} (h:Lst n k d o rows outs r):Ok rows outs k:=by
 have h0:=(List.getElem?_eq_some_iff.1 h.zero).1
 have hl:=h.len
 have key:∀ (i:Nat) (row:List Nat),rows[i]?=some row→∃ s,r[i]?=some s∧row.length=k∧∀ c j:Nat,row[c]?=some j→∃ t,r[j]?=some t∧Eqv k d o t (d s c):=fun i row hr=>by
  have hi:=(List.getElem?_eq_some_iff.1 hr).1
  have e:r[i]?=some (r[i]'(by omega)):=List.getElem?_eq_getElem _
  obtain⟨row',e1,e2,e3⟩:=h.row i _ e
  rw [hr] at e1
  injection e1 with e1
  subst e1
  exact⟨_,e,e2,e3⟩
 refine⟨by omega,h.olen,fun i row hr=>?_,fun i row hr x hx=>?_⟩
 ·obtain⟨s,_,e,_⟩:=key i row hr
  exact e
 ·obtain⟨s,_,_,e⟩:=key i row hr
  obtain⟨c,hc⟩:=List.getElem?_of_mem hx
  obtain⟨t,ht,_⟩:=e c x hc
  have:=(List.getElem?_eq_some_iff.1 ht).1
  omega
theorem Lst.from {n k:Nat} {d:Nat→Nat→Nat} {o:Nat→Nat} {rows:List (List Nat)} {outs r:List Nat} (h:Lst n k d o rows outs r):∀ (w:List Nat),(∀ c∈w,c < k)→∀ i s,r[i]?=some s→o (w.foldl d s)=oR outs (w.foldl (dR rows) i)
 | [],_,i,s,hs=>by
  have:=(h.st i s hs).2
  unfold oR
  show o s=outs[i]?.getD 0
  rw [this];rfl
 | c::w,hw,i,s,hs=>by
  obtain⟨row,e1,e2,e3⟩:=h.row i s hs
  have hck:=hw c (by simp)
  have e4:row[c]?=some (row[c]'(by omega)):=List.getElem?_eq_getElem _
  obtain⟨t,ht,he⟩:=e3 c _ e4
  have hd:dR rows i c=row[c]'(by omega):=by unfold dR;rw [e1];show row[c]?.getD 0=_;rw [e4];rfl
  show o (w.foldl d (d s c))=oR outs (w.foldl (dR rows) (dR rows i c))
  rw [hd,←Lst.from h w (fun x hx=>hw x (by simp [hx])) _ t ht]
  exact (he w (fun x hx=>hw x (by simp [hx]))).symm
end Hm
end Go.Proofs.YtchaoonefiamdaaGreatDoor.L
namespace Go.Proofs.YtchaoonefiamdaaGreatDoor
set_option linter.unusedVariables false
set_option linter.unusedSimpArgs false
open Rl (Ex)
open Au
theorem runs_fold (nx:List (List Nat)):∀ (C:List Int) (s k:Nat),k≤C.length→(s::runs nx s C)[k]?=some (((C.take k).map Int.toNat).foldl (dX nx) s)
 | C,s,0,_=>rfl
 | [],s,k+1,h=>by simp at h
 | c::C,s,k+1,h=>by
  have ih:=runs_fold nx C (dX nx s c.toNat) k (by simpa using h)
  exact ih
theorem runs_some {nx:List (List Nat)} {C:List Int} {s k t:Nat} (h:(s::runs nx s C)[k]?=some t):k≤C.length∧t=((C.take k).map Int.toNat).foldl (dX nx) s:=by
 have hk:=(List.getElem?_eq_some_iff.1 h).1
 rw [List.length_cons,runs_len] at hk
 refine⟨by omega,?_⟩
 rw [runs_fold nx C s k (by omega)] at h
 injection h with h
 exact h.symm
theorem least_tells {es:List Ex} {cl:Nat} {nx:List (List Nat)} {o:List Nat} (h:Au.make es (cl:Int)=.ok (nx,o)) {rows:List (List Nat)} {outs r:List Nat} (hl:L.Hm.Lst nx.length cl (dX nx) (oX o) rows outs r) (C:List Int) (hC:∀ c∈C,0≤c∧c < (cl:Int)) (k s:Nat) (hs:(0::runs rows 0 C)[k]?=some s) :
  s < rows.length∧∃ O,outs[s]?=some O∧∀ r e,es[r]?=some e→(O.testBit r=true↔∃ i,mt (C.take k) e i (C.take k).length):=by
 obtain⟨hk,hs2⟩:=runs_some hs
 have hw:∀ c∈(C.take k).map Int.toNat,c < cl:=fun c hc=>by
  obtain⟨x,hx,rfl⟩:=List.mem_map.1 hc
  have:=hC x (List.mem_of_mem_take hx)
  omega
 have hd:∀ s c,dX rows s c=L.Hm.dR rows s c:=fun _ _=>rfl
 have hfold:s=((C.take k).map Int.toNat).foldl (L.Hm.dR rows) 0:=hs2
 have hok:=hl.ok
 have hlt:s < rows.length:=by rw [hfold];exact hok.fold _ hw 0 hok.pos
 refine⟨hlt,_,hok.o hlt,fun r e he=>?_⟩
 have hrun:=runs_fold nx C 0 k hk
 obtain⟨_,O,hO,hall⟩:=make_tells es cl nx o h C hC k _ hrun
 have e2:=hl.from _ hw 0 0 hl.zero
 rw [←hfold] at e2
 rw [←e2]
 have e3:oX o (((C.take k).map Int.toNat).foldl (dX nx) 0)=O:=by unfold oX;rw [hO];rfl
 rw [e3]
 exact hall r e he
theorem mt_set (C:List Int) (s:Int) (i j:Nat):mt C (.mk 1 s []) i j↔j=i+1∧hit C s i:=by
 unfold Au.mt
 rw [if_pos rfl]
theorem set_ends (C:List Int) (s:Int) (k:Nat) (hk:k≤C.length):(∃ i,mt (C.take k) (.mk 1 s []) i (C.take k).length)↔0 < k∧hit (C.take k) s (k-1):=by
 have hl:(C.take k).length=k:=by rw [List.length_take];omega
 rw [hl]
 constructor
 ·rintro ⟨i,h⟩
  rw [mt_set] at h
  exact⟨by omega,by rw [show k-1=i by omega];exact h.2⟩
 ·rintro ⟨h1,h2⟩
  exact⟨k-1,by rw [mt_set];exact⟨by omega,h2⟩⟩
end Go.Proofs.YtchaoonefiamdaaGreatDoor
namespace Go.Proofs.YtchaoonefiamdaaGreatDoor
open Go.RowKit Go.Maps
set_option linter.unusedVariables false
set_option linter.unusedSimpArgs false
def rvK (l:List Int) (i:Nat):List Int:=l.mapIdx (fun j x=>if j < i∨l.length-i≤j then l[l.length-1-j]?.getD 0 else x)
theorem rvK_len (l:List Int) (i:Nat):(rvK l i).length=l.length:=by simp [rvK]
theorem rvK_at (l:List Int) (i j:Nat) (h:j < l.length):(rvK l i)[j]?=some (if j < i∨l.length-i≤j then l[l.length-1-j]?.getD 0 else l[j]):=by
 unfold rvK
 rw [List.getElem?_mapIdx,List.getElem?_eq_getElem h]
 rfl
theorem rvK_zero (l:List Int):rvK l 0=l:=by
 apply List.ext_getElem?
 intro j
 by_cases h:j < l.length
 ·rw [rvK_at l 0 j h,if_neg (by omega),List.getElem?_eq_getElem h]
 ·rw [List.getElem?_eq_none (by rw [rvK_len];omega),List.getElem?_eq_none (by omega)]
theorem rvK_full (l:List Int) (i:Nat) (h:l.length≤2*i+1):rvK l i=l.reverse:=by
 apply List.ext_getElem?
 intro j
 by_cases hj:j < l.length
 ·rw [rvK_at l i j hj,List.getElem?_reverse hj,List.getElem?_eq_getElem (by omega)]
  by_cases c:j < i∨l.length-i≤j
  ·rw [if_pos c]
   rfl
  ·rw [if_neg c]
   congr 1
   congr 1
   omega
 ·rw [List.getElem?_eq_none (by rw [rvK_len];omega),List.getElem?_eq_none (by simp;omega)]
theorem rvK_step (l:List Int) (i:Nat) (h:2*i+1 < l.length) (x y:Int) (hx:l[i]?=some x) (hy:l[l.length-1-i]?=some y):((rvK l i).set i y).set (l.length-1-i) x=rvK l (i+1):=by
 apply List.ext_getElem?
 intro j
 by_cases hj:j < l.length
 ·rw [rvK_at l (i+1) j hj]
  by_cases e1:j=l.length-1-i
  ·subst e1
   rw [List.getElem?_set_self (by rw [List.length_set,rvK_len];exact hj),if_pos (by omega),show l.length-1-(l.length-1-i)=i by omega,hx]
   rfl
  ·rw [List.getElem?_set_ne (fun e=>e1 e.symm)]
   by_cases e2:j=i
   ·subst e2
    rw [List.getElem?_set_self (by rw [rvK_len];exact hj),if_pos (by omega),hy]
    rfl
   ·rw [List.getElem?_set_ne (fun e=>e2 e.symm),rvK_at l i j hj]
    by_cases c:j < i∨l.length-i≤j
    ·rw [if_pos c,if_pos (by omega)]
    ·rw [if_neg c,if_neg (by omega)]
 ·rw [List.getElem?_eq_none (by rw [List.length_set,List.length_set,rvK_len];omega),List.getElem?_eq_none (by rw [rvK_len];omega)]
set_option maxRecDepth 100000 in
set_option maxHeartbeats 4000000 in
theorem reverse_any (l:List Int) (g cap:Nat) (lo:Nat) (w:World) (hO:w.ownsRow lo 3 1 (.slice (some ⟨g,0,none⟩) l.length cap) l.length (ints l)) (hn:l.length≤1000) :
  Calls Tryz.prog 26 #[.slice (some ⟨g,0,none⟩) l.length cap] w fun e w'=>e=.returned (.tuple #[])∧w'.ownsRow lo 3 1 (.slice (some ⟨g,0,none⟩) l.length cap) l.length (ints l.reverse)∧Only (·=g) w w':=by
 have HO:Hid _:=hO
 obtain⟨n,hnl⟩:∃ n,n=l.length:=⟨_,rfl⟩
 have HNL:Hid (n=l.length):=hnl
 rw [←hnl] at hn ⊢
 clear hO hnl
 go_enter Tryz.func26,Tryz.ntmps26
 go_wp2_with fail
 go_loopg [2,3] n (fun gh v u wr=>∃ (k:Nat) (W:World),W=wr∧gh=n-k∧2*k≤n+1∧v=.int .i64 (k:Int)∧u=.int .i64 ((n:Int)-1-(k:Int))∧W.ownsRow lo 3 1 (.slice (some ⟨g,0,none⟩) n cap) n (ints (rvK l k))∧Only (·=g) w W)
 case atStart =>
  refine⟨0,_,rfl,rfl,by omega,rfl,by go_num,?_,Only.refl _ _⟩
  rw [rvK_zero,HNL.out]
  exact HO.out
 case round =>
  obtain⟨k,W,hW,rfl,hk,rfl,rfl,hown,ho⟩:=hrel
  subst hW
  have HOW:Hid (W.ownsRow lo 3 1 (.slice (some ⟨g,0,none⟩) n cap) n (ints (rvK l k))):=hown
  have HOr:Hid (Only (·=g) w W):=ho
  by_cases hlt:2*k+1 < n
  ·obtain⟨m,hm⟩:∃ m:Nat,(n:Int)-1-(k:Int)=(m:Int):=⟨n-1-k,by omega⟩
   rw [hm]
   have hmn:m=n-1-k:=by omega
   have HMK:Hid ((n:Int)-1-((k+1:Nat):Int)=(m:Int)-1):=by
    show _=_
    omega
   have hml:m < n:=by omega
   have hkl:k < n:=by omega
   have t0:(m:Int) < (n:Int):=by omega
   have t1:(k:Int) < (m:Int):=by omega
   have t2:(k:Int) < (n:Int):=by omega
   obtain⟨x,hx⟩:∃ x,l[k]?=some x:=⟨_,List.getElem?_eq_getElem (by rw [←HNL.out];exact hkl)⟩
   obtain⟨y,hy⟩:∃ y,l[l.length-1-k]?=some y:=⟨_,List.getElem?_eq_getElem (by rw [←HNL.out];omega)⟩
   have HXY:Hid (((rvK l k).set k y).set m x=rvK l (k+1)):=by
    have:=rvK_step l k (by rw [←HNL.out];exact hlt) x y hx hy
    rw [←HNL.out,←hmn] at this
    exact this
   have gx:(rvK l k)[k]?=some x:=by
    rw [rvK_at l k k (by rw [←HNL.out];exact hkl),if_neg (by rw [←HNL.out];omega),←List.getElem?_eq_getElem (by rw [←HNL.out];exact hkl),hx]
   have gy:(rvK l k)[m]?=some y:=by
    have hl:=(List.getElem?_eq_some_iff.1 hy)
    rw [rvK_at l k m (by rw [←HNL.out];exact hml),if_neg (by rw [←HNL.out];omega),←List.getElem?_eq_getElem (by rw [←HNL.out];exact hml),hmn,HNL.out,hy]
   have c1:W.cell? ⟨g,k,none⟩=some (.int .i64 x):=by
    rw [hown.cellAt k (by omega)]
    unfold ints
    rw [List.getElem?_map,gx]
    rfl
   have c2:W.cell? ⟨g,m,none⟩=some (.int .i64 y):=by
    rw [hown.cellAt m (by omega)]
    unfold ints
    rw [List.getElem?_map,gy]
    rfl
   have f1:∀ z,W.frozen? ⟨g,z,none⟩=false:=fun z=>hown.frozenAt z
   have hs:=L.own_set hown k (by omega) (.int .i64 y)
   have HS2:Hid (((W.setCell ⟨g,k,none⟩ (.int .i64 y)).setCell ⟨g,m,none⟩ (.int .i64 x)).ownsRow lo 3 1 (.slice (some ⟨g,0,none⟩) n cap) n (ints (rvK l (k+1)))):=by
    have:=L.own_set hs m (by omega) (.int .i64 x)
    unfold ints at this ⊢
    rw [←HXY.out,List.map_set,List.map_set]
    exact this
   have c3:(W.setCell ⟨g,k,none⟩ (.int .i64 y)).cell? ⟨g,m,none⟩=some (.int .i64 y):=by
    rw [hs.cellAt m (by omega)]
    unfold ints
    rw [List.getElem?_set_ne (by omega),List.getElem?_map,gy]
    rfl
   have f2:∀ z,(W.setCell ⟨g,k,none⟩ (.int .i64 y)).frozen? ⟨g,z,none⟩=false:=fun z=>hs.frozenAt z
   have lg:g < W.heap.size:=World.block_lt_of_cell? W _ c1
   clear hown ho hs gx gy hx hy hmn
   go_wp2_with fail
   go_region
   all_goals
    go_wp2_with fail
    go_roundg (n-(k+1))
    case measure=>omega
    case rel =>
     refine⟨k+1,_,rfl,rfl,by omega,by go_num,?_,?_,?_⟩
     ·rw [HMK.out]
     ·exact HS2.out
     ·exact ((HOr.out.setCell (p:=⟨g,k,none⟩) rfl _).setCell (p:=⟨g,m,none⟩) rfl _).drew
  ·have t2:decide ((k:Int) < (n:Int)-1-(k:Int))=false:=decide_eq_false (by omega)
   clear hown ho
   go_wp2_with fail
   go_end0
   refine⟨rfl,?_,HOr.out⟩
   have:=HOW.out
   rw [rvK_full l k (by rw [←HNL.out];omega)] at this
   exact this
end Go.Proofs.YtchaoonefiamdaaGreatDoor
namespace Go.Proofs.YtchaoonefiamdaaGreatDoor
open Go.RowKit Go.Maps
set_option linter.unusedVariables false
set_option linter.unusedSimpArgs false
open Rl (Ex)
theorem natI_ints (l:List Nat):L.natI l=ints (l.map (fun (t:Nat)=>(t:Int))):=by
 unfold L.natI ints
 rw [List.map_map]
 rfl
theorem ints_of {l:List Int} (h:∀ c∈l,0≤c):(l.map Int.toNat).map (fun (t:Nat)=>(t:Int))=l:=by
 rw [List.map_map]
 conv=>rhs;rw [←List.map_id l]
 exact List.map_congr_left (fun c hc=>by have:=h c hc;simp only [Function.comp,id];omega)
def wyV (r:Value) (l:List Nat):Wy:=match r with
 | .slice a n c=>⟨a,n,c,l.map (fun (t:Nat)=>(t:Int))⟩
 | _=>⟨none,l.length,0,l.map (fun (t:Nat)=>(t:Int))⟩
theorem ra_nw {w:World} {lo k:Nat} {vX vO:Value} {rows:List (List Nat)} {outs:List Nat} (h:L.Ra w lo (.agg #[vX,vO]) rows outs) (ho:L.Hm.Ok rows outs k) (hk:k≤24) :
  ∃ aN cN gO cO ws,vX=.slice aN rows.length cN∧vO=.slice (some ⟨gO,0,none⟩) outs.length cO∧Nw w aN rows.length ws∧rows.length≤maxLen∧outs.length≤maxLen∧(∀ (s:Nat) (L:List Nat),rows[s]?=some L→∃ y,ws[s]?=some y∧y.n=k∧y.L=L.map (fun (t:Nat)=>(t:Int)))∧gO < w.heap.size∧∀ (s x:Nat),outs[s]?=some x→w.cell? ⟨gO,s,none⟩=some (.int .u32 (x:Int)):=by
 obtain⟨vX',vO',rs,e,h2,h3,h4,h5⟩:=h
 simp only [Value.agg.injEq,Array.mk.injEq,List.cons.injEq,and_true] at e
 obtain⟨rfl,rfl⟩:=e
 have hp:=ho.pos
 obtain⟨g,cap,rfl,hg,hm,hc⟩:=L.own_cells h3 (by omega)
 obtain⟨g',cap',rfl,hg',hm',hc'⟩:=L.own_cells h5 (by rw [ho.olen];exact hp)
 have key:∀ (j:Nat) (r:Value),rs[j]?=some r→∃ l a c,rows[j]?=some l∧l.length=k∧r=.slice a k c∧w.ownsRow lo 3 1 (.slice a k c) k (L.natI l):=fun j r hr=>by
  have hj:=(List.getElem?_eq_some_iff.1 hr).1
  have e:rows[j]?=some (rows[j]'(by omega)):=List.getElem?_eq_getElem _
  have hl:=ho.rlen j _ e
  have h6:=h4 j r _ hr e
  rw [hl] at h6
  obtain⟨a,c,rfl⟩:=L.own_form h6
  exact⟨_,a,c,e,hl,rfl,h6⟩
 refine⟨some ⟨g,0,none⟩,cap,g',cap',(rs.zip rows).map (fun p=>wyV p.1 p.2),by rw [h2],rfl,⟨by simp [h2],g,0,fun _=>⟨rfl,hg⟩,fun j x hj=>?_⟩,by omega,hm',fun s l hl=>?_,hg',fun s x hx=>hc' s (L.u32V x) (by rw [List.getElem?_map,hx];rfl)⟩
 ·rw [List.getElem?_map] at hj
  cases hz:(rs.zip rows)[j]? with
  | none=>rw [hz] at hj;cases hj
  | some p =>
   rw [hz] at hj
   injection hj with hj
   subst hj
   obtain⟨r,l⟩:=p
   obtain⟨z1,z2⟩:=List.getElem?_zip_eq_some.1 hz
   obtain⟨l',a,c,q1,q2,rfl,q3⟩:=key j r z1
   have q4:=z2.symm.trans q1
   injection q4 with q4
   subst q4
   rw [natI_ints] at q3
   refine⟨?_,?_,?_⟩
   ·exact iw_own q3 (by show k=(l.map _).length;rw [List.length_map];exact q2.symm)
   ·show k≤maxLen
    unfold maxLen;omega
   ·rw [Nat.zero_add]
    exact hc j _ z1
 ·have hs:=(List.getElem?_eq_some_iff.1 hl).1
  have e:rs[s]?=some (rs[s]'(by omega)):=List.getElem?_eq_getElem _
  obtain⟨l',a,c,q1,q2,q3,_⟩:=key s _ e
  have q4:=hl.symm.trans q1
  injection q4 with q4
  subst q4
  rw [q3] at e
  exact⟨wyV (.slice a k c) l,by rw [List.getElem?_map,List.getElem?_zip_eq_some (z:=(Value.slice a k c,l)) |>.2 ⟨e,hl⟩];rfl,rfl,rfl⟩
theorem run_runs {ws:List Wy} {nx:List (List Nat)} {cl:Nat} (h1:∀ (s:Nat) (L:List Nat),nx[s]?=some L→∃ y,ws[s]?=some y∧y.n=cl∧y.L=L.map (fun (t:Nat)=>(t:Int)))
  (h2:∀ s,s < nx.length→∃ w,nx[s]?=some w∧∀ c,c < cl→∃ t,w[c]?=some t∧t < nx.length):∀ (C:List Int) (s:Nat),s < nx.length→(∀ c∈C,0≤c∧c < (cl:Int))→run ws (s:Int) C=(Au.runs nx s C).map (fun (t:Nat)=>(t:Int))
 | [],s,hs,hC=>by simp [run,Au.runs]
 | c::cs,s,hs,hC=>by
  obtain⟨w,hw,hk⟩:=h2 s hs
  obtain⟨y,hy,hyn,hyL⟩:=h1 s w hw
  have hc:=hC c (by simp)
  obtain⟨t,ht,htl⟩:=hk c.toNat (by omega)
  have hwy:wy ws (s:Int)=y:=by
   unfold wy
   rw [if_pos (by omega),Int.toNat_natCast,hy]
   rfl
  have e1:(((nx[s]?.getD [])[c.toNat]?).getD 0)=t:=by rw [hw,Option.getD_some,ht,Option.getD_some]
  have e2:(y.L[c.toNat]?).getD 0=(t:Int):=by rw [hyL,List.getElem?_map,ht];rfl
  unfold run Au.runs
  rw [hwy,if_pos (by rw [hyn];exact hc),e1,e2,List.map_cons,run_runs h1 h2 cs t htl (fun c h=>hC c (by simp [h]))]
theorem ok_ways {rows:List (List Nat)} {outs:List Nat} {k:Nat} (h:L.Hm.Ok rows outs k):∀ s,s < rows.length→∃ w,rows[s]?=some w∧∀ c,c < k→∃ t,w[c]?=some t∧t < rows.length:=fun s hs=>by
 refine⟨_,List.getElem?_eq_getElem hs,fun c hc=>?_⟩
 obtain⟨row,x,e1,e2,_,e3⟩:=h.d hs hc
 rw [List.getElem?_eq_getElem hs] at e1
 injection e1 with e1
 rw [e1]
 exact⟨x,e2,e3⟩
theorem mrun_any {w:World} {lo k:Nat} {vX vO:Value} {rows:List (List Nat)} {outs:List Nat} (h:L.Ra w lo (.agg #[vX,vO]) rows outs) (ho:L.Hm.Ok rows outs k) (hk:k≤24) (aC:Option Addr) (nC cC:Nat) (C:List Int) (hC:Iw w aC nC C) (hnC:nC≤1000000) (hin:∀ c∈C,0≤c∧c < (k:Int)) :
  Calls Tryz.prog 27 #[.agg #[vX,vO],.slice aC nC cC] w fun e w'=>∃ g cp,e=.returned (.slice (some ⟨g,0,none⟩) (nC+1) cp)∧w.heap.size≤g∧g < w'.heap.size∧(∀ (j x:Nat),(0::Au.runs rows 0 C)[j]?=some x→w'.cell? ⟨g,j,none⟩=some (.int .i64 (x:Int)))∧Only (fun _=>False) w w':=by
 obtain⟨aN,cN,gO,cO,ws,rfl,rfl,hN,hm,_,hws,_,_⟩:=ra_nw h ho hk
 have e:=run_runs hws (ok_ways ho) C 0 ho.pos hin
 refine Calls.mono (run_any aN rows.length cN (some ⟨gO,0,none⟩) outs.length cO ws aC nC cC C w hN hm ho.pos hC hnC) ?_
 rintro e2 w' ⟨v,rfl,hown,hoo⟩
 rw [show run ws 0 C=_ from e,List.length_map,Au.runs_len,hC.1] at hown
 obtain⟨g,cp,rfl,hg,_,hc⟩:=L.own_cells hown (by omega)
 have hb:w.heap.size+1≤g:=(L.own_own hown rfl).1
 refine⟨g,cp,rfl,by omega,hg,fun j x hx=>hc j _ ?_,hoo⟩
 unfold ints
 rw [show (0:Int)::(Au.runs rows 0 C).map (fun (t:Nat)=>(t:Int))=(0::Au.runs rows 0 C).map (fun (t:Nat)=>(t:Int)) by rfl,List.getElem?_map,List.getElem?_map,hx]
 rfl
end Go.Proofs.YtchaoonefiamdaaGreatDoor
