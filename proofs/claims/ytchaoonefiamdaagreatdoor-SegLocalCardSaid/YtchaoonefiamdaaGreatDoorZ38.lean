/- LPa LPb LPc LPd -/
import Derived.Test.YtchaoonefiamdaaGreatDoorZ37
import Derived.Deep.RegionLaw
import Derived.Deep.RegionWith
namespace Go.Proofs.YtchaoonefiamdaaGreatDoor.L
open Go.RowKit Go.Maps
set_option linter.unusedVariables false
set_option linter.unusedSimpArgs false
theorem al_mid (w:World) (o p q:Obj):(((w.alloc o).alloc p).alloc q).drew.heap[w.heap.size+1]?=some p:=by
  have h1:=heap_alloc_new (w.alloc o) p
  rw [show (w.alloc o).heap.size=w.heap.size+1 by simp] at h1
  exact (Below.heap_alloc ((w.alloc o).alloc p) q _ (by simp)).trans h1
theorem al_last (w:World) (o p q:Obj):(((w.alloc o).alloc p).alloc q).drew.heap[w.heap.size+1+1]?=some q:=by
  have h1:=heap_alloc_new ((w.alloc o).alloc p) q
  rw [show ((w.alloc o).alloc p).heap.size=w.heap.size+1+1 by simp] at h1
  exact h1
def gv (f t d:Nat):Value:=.agg #[.int .i64 (f:Int),.int .i64 (t:Int),.int .i64 (d:Int)]
set_option maxRecDepth 100000 in
theorem size0_any (f t r:Nat) (w:World) (h:t=f+r) (h1:t≤1000000):Calls Tryz.prog 105 #[.agg #[.int .i64 (f:Int),.int .i64 (t:Int),.int .i64 0]] w fun e w'=>e=.returned (.int .i64 (r:Int))∧w'=w.alloc (.cells #[.int .i64 (f:Int),.int .i64 (t:Int),.int .i64 0] 141):=by
  have e1:(t:Int) - (f:Int)=(r:Int):=by omega
  have hr:r≤1000000:=by omega
  clear h
  go_enter Tryz.func105,Tryz.ntmps105
  go_wp2_with fail
  go_ret
  exact ⟨rfl,rfl⟩
theorem Ms.reads {w:World} {gb rb ab ob n base B1 lb cap i f t d:Nat} {row at' of:List Nat} {ls:List (Nat × Nat × Nat)} (h:Ms w gb rb ab ob n base B1 (.slice (some ⟨lb,0,none⟩) ls.length cap) row at' of ls) (hl:ls[i]?=some (f,t,d)):w.cell? ⟨gb,3,none⟩=some (.slice (some ⟨lb,0,none⟩) ls.length cap)∧w.cell? ⟨lb,i*3,none⟩=some (.int .i64 (f:Int))∧w.cell? ⟨lb,i*3+1,none⟩=some (.int .i64 (t:Int))∧w.cell? ⟨lb,i*3+2,none⟩=some (.int .i64 (d:Int))∧∀ x,w.frozen? ⟨lb,x,none⟩=false:=by
  obtain ⟨lb',cap',hv,hlb1,hlb2,hcap,hcapm,hcell,cur,hcur⟩:=h.nl
  injection hv with hv1 hv2 hv3
  injection hv1 with hv1
  injection hv1 with hv1
  subst hv1
  obtain ⟨q0,q1,q2⟩:=gcs_at ls i f t d hl
  have hil:=(List.getElem?_eq_some_iff.1 hl).1
  exact ⟨cell_blk h.G,(hcell _ (by omega)).trans q0,(hcell _ (by omega)).trans q1,(hcell _ (by omega)).trans q2,fun x=>fz_blk hcur x⟩
end Go.Proofs.YtchaoonefiamdaaGreatDoor.L
namespace Go.Proofs.YtchaoonefiamdaaGreatDoor.L
open Go.RowKit Go.Maps
set_option linter.unusedVariables false
set_option linter.unusedSimpArgs false
theorem Ms.put {w:World} {gb rb ab ob n base B1 lb cap i a b:Nat} {row at' of:List Nat} {ls:List (Nat × Nat × Nat)} (h:Ms w gb rb ab ob n base B1 (.slice (some ⟨lb,0,none⟩) ls.length cap) row at' of ls) (hi:i < ls.length):Ms (((w.setCell ⟨lb,i*3,none⟩ (.int .i64 (a:Int))).setCell ⟨lb,i*3+1,none⟩ (.int .i64 (b:Int))).setCell ⟨lb,i*3+2,none⟩ (.int .i64 0)) gb rb ab ob n base B1 (.slice (some ⟨lb,0,none⟩) (ls.set i (a,b,0)).length cap) row at' of (ls.set i (a,b,0)):=by
  obtain ⟨n1,n2,n3,n4⟩:=h.ne
  have hL:=own_set (own_set (own_set h.L (i*3) (by omega) (.int .i64 (a:Int))) (i*3+1) (by omega) (.int .i64 (b:Int))) (i*3+2) (by omega) (.int .i64 ((0:Nat):Int))
  rw [gcs_set ls i a b 0 hi] at hL
  rw [List.length_set]
  refine ⟨((h.G.off (fun e=>n4 e.symm) _ _).off (fun e=>n4 e.symm) _ _).off (fun e=>n4 e.symm) _ _,((h.r.off n1.symm _ _).off n1.symm _ _).off n1.symm _ _,((h.a.off n2.symm _ _).off n2.symm _ _).off n2.symm _ _,((h.o.off n3.symm _ _).off n3.symm _ _).off n3.symm _ _,?_,h.ra,h.ro,h.ao,h.lo,h.hi,by rw [List.length_set];exact h.kl,by rw [List.length_set];exact h.kn,h.n1⟩
  rw [List.length_set]
  exact hL
theorem Ms.drew {w:World} {gb rb ab ob n base B1:Nat} {vL:Value} {row at' of:List Nat} {ls:List (Nat × Nat × Nat)} (h:Ms w gb rb ab ob n base B1 vL row at' of ls):Ms w.drew gb rb ab ob n base B1 vL row at' of ls:=h.keep ((Only.refl (fun _=>False) w).drew) (fun _ h=>h.elim) (fun _ _ h=>h.elim)
theorem Ms.of' {w:World} {gb rb ab ob n base B1 s x:Nat} {vL:Value} {row at' of:List Nat} {ls:List (Nat × Nat × Nat)} (h:Ms w gb rb ab ob n base B1 vL row at' of ls):Ms (w.setCell ⟨ob,s,none⟩ (.int .i64 (x:Int))) gb rb ab ob n base B1 vL row at' (of.set s x) ls :=
  ⟨h.G.off (h.G.ne h.o) _ _,h.r.off h.ro _ _,h.a.off h.ao _ _,h.o.set s x,own_off h.L (fun cur hc=>by have:=h.o;unfold Nb at this;rw [this] at hc;injection hc with hc;injection hc with _ hc;cases hc),h.ra,h.ro,h.ao,h.lo,h.hi,h.kl,h.kn,h.n1⟩
set_option maxRecDepth 100000 in
set_option maxHeartbeats 1000000 in
theorem states_any (gb rb ab ob n c e m x:Nat) (vL:Value) (w:World) (hG:Gb w gb rb ab ob n vL) (hm:e=c+m) (he:e≤n) (hc:c < n) (hn:n≤1000000):Calls Tryz.prog 74 #[.pointer (some ⟨gb,0,none⟩),.agg #[.int .i64 (c:Int),.int .i64 (e:Int),.int .i64 0]] w fun y w'=>y=.returned (.slice (some ⟨rb,c,none⟩) m (n - c))∧Only (fun _=>False) w w':=by
  have z0:w.cell? ⟨gb,0,none⟩=some (.slice (some ⟨rb,0,none⟩) n n):=cell_blk hG
  have lgb:=hG.lt
  have h1:(c:Int)≤(e:Int):=by omega
  have h2:(e:Int)≤(n:Int):=by omega
  have h3:(e:Int) - (c:Int)=(m:Int):=by omega
  have h4:e - c=m:=by omega
  have h5:c≤e:=by omega
  have h6:¬ n=c:=by omega
  have h7:(n:Int) - (c:Int)=((n - c:Nat):Int):=by omega
  clear hG hm
  go_enter Tryz.func74,Tryz.ntmps74
  go_wp2_with fail
  go_quiet (fail)
  go_wp2_with fail
  go_ret
  exact ⟨rfl,((Only.refl _ _).alloc _).drewN _⟩
theorem Hm.Pi.few {n:Nat} {row at' of:List Nat} {ls:List (Nat × Nat × Nat)} {T:Nat→Prop} (h:Hm.Pi n row at' of ls T):ls.length≤n:=by
  have hf:∀ g,g < ls.length→∃ s,of[s]?=some g:=fun g hg=>by
    obtain ⟨x,hx⟩:∃ x,ls[g]?=some x:=⟨_,List.getElem?_eq_getElem hg⟩
    obtain ⟨f,t,d⟩:=x
    obtain ⟨a,b,c,e⟩:=h.seg g f t d hx
    have rl:=h.rl
    obtain ⟨s,hs⟩:∃ s,row[f]?=some s:=⟨_,List.getElem?_eq_getElem (by omega)⟩
    exact ⟨s,(e f s (Nat.le_refl _) a hs).1⟩
  have key:∀ k,k≤ls.length→∃ L:List Nat,L.length=k∧L.Nodup∧(∀ s∈L,s < n∧∃ g,g < k∧of[s]?=some g):=by
    intro k
    induction k with
    | zero=>intro _;exact ⟨[],rfl,List.nodup_nil,fun s h=>by cases h⟩
    | succ k ih =>
      intro hk
      obtain ⟨L,h1,h2,h3⟩:=ih (by omega)
      obtain ⟨s,hs⟩:=hf k (by omega)
      have hsl:=(List.getElem?_eq_some_iff.1 hs).1
      have ol:=h.ol
      refine ⟨s :: L,by simp [h1],List.nodup_cons.2 ⟨fun hm=>?_,h2⟩,fun y hy=>?_⟩
      · obtain ⟨_,g,hg,hg2⟩:=h3 s hm
        rw [hs] at hg2
        injection hg2 with hg2
        omega
      · rcases List.mem_cons.1 hy with rfl | hy
        · exact ⟨by omega,k,by omega,hs⟩
        · obtain ⟨a,g,hg,hg2⟩:=h3 y hy
          exact ⟨a,g,by omega,hg2⟩
  obtain ⟨L,h1,h2,h3⟩:=key ls.length (Nat.le_refl _)
  have:=mt_len n L h2 (fun s hs=>(h3 s hs).1)
  omega
theorem info62:(Tryz.prog.info? 141).map (fun i=>(i.zero,i.size,i.bytes))=some (some (.agg #[.int .i64 0,.int .i64 0,.int .i64 0]),3,24):=by kernel_rfl
theorem Ms.more {w w5:World} {gb rb ab ob n base B1 lb cap c e g5 cap5 K:Nat} {row at' of:List Nat} {ls:List (Nat × Nat × Nat)} (h:Ms w gb rb ab ob n base B1 (.slice (some ⟨lb,0,none⟩) ls.length cap) row at' of ls) (hK:ls.length=K) (ho:Only (fun b=>b=lb) w w5) (hown:w5.ownsRow base 141 3 (.slice (some ⟨g5,0,none⟩) (K+1) cap5) (K+1) (gcs ls++gc (c,e,0))) (hn:K+1≤n):Ms (w5.setCell ⟨gb,3,none⟩ (.slice (some ⟨g5,0,none⟩) (K+1) cap5)) gb rb ab ob n base B1 (.slice (some ⟨g5,0,none⟩) (ls++[(c,e,0)]).length cap5) row at' of (ls++[(c,e,0)]):=by
  obtain ⟨n1,n2,n3,n4⟩:=h.ne
  have hl:(ls++[(c,e,0)]).length=K+1:=by simp [hK]
  have hG:=h.G.only ho (fun e=>n4 e.symm)
  have hr:=h.r.only ho (fun e=>n1 e.symm)
  have ha:=h.a.only ho (fun e=>n2 e.symm)
  have hob:=h.o.only ho (fun e=>n3 e.symm)
  rw [hl]
  refine ⟨?_,hr.off (fun e=>hG.ne hr e.symm) _ _,ha.off (fun e=>hG.ne ha e.symm) _ _,hob.off (fun e=>hG.ne hob e.symm) _ _,?_,h.ra,h.ro,h.ao,h.lo,h.hi,by rw [hl];omega,by rw [hl];exact hn,h.n1⟩
  · exact heap_setCell_at hG _
  · rw [hl,gcs_app,gcs_one]
    refine own_off hown (fun cur hc=>?_)
    unfold Gb at hG
    rw [hG] at hc
    injection hc with hc
    injection hc with _ hc
    cases hc
end Go.Proofs.YtchaoonefiamdaaGreatDoor.L
namespace Go.Proofs.YtchaoonefiamdaaGreatDoor.L
open Go.RowKit Go.Maps
set_option linter.unusedVariables false
set_option linter.unusedSimpArgs false
theorem part_mem {ls:List (Nat × Nat × Nat)} {i f t d a b c e:Nat} (h:ls[i]?=some (f,t,d)):∀ x:Nat,(∃ f t d,(ls.set i (a,b,0)++[(c,e,0)])[x]?=some (f,t,d)∧0 < d)↔(x≠i∧∃ f t d,ls[x]?=some (f,t,d)∧0 < d):=fun x=>by
  have il:=(List.getElem?_eq_some_iff.1 h).1
  by_cases hx:x < ls.length
  · rw [List.getElem?_append_left (by rw [List.length_set];exact hx),Hm.ls_set il]
    by_cases e2:i=x
    · rw [if_pos e2]
      constructor
      · rintro ⟨f',t',d',h1,h2⟩
        injection h1 with h1
        simp only [Prod.mk.injEq] at h1
        omega
      · rintro ⟨h1,_⟩
        exact absurd e2.symm h1
    · rw [if_neg e2]
      exact ⟨fun h=>⟨fun e=>e2 e.symm,h⟩,fun h=>h.2⟩
  · constructor
    · rintro ⟨f',t',d',h1,h2⟩
      rw [List.getElem?_append_right (by rw [List.length_set];omega)] at h1
      cases hk:x - (ls.set i (a,b,0)).length with
      | zero =>
        rw [hk] at h1
        simp at h1
        omega
      | succ k=>rw [hk] at h1;simp at h1
    · rintro ⟨_,f',t',d',h1,_⟩
      have:=(List.getElem?_eq_some_iff.1 h1).1
      omega
theorem part_lo {w:World} {gb rb ab ob n base B1 lb cap:Nat} {row at' of:List Nat} {ls:List (Nat × Nat × Nat)} (h:Ms w gb rb ab ob n base B1 (.slice (some ⟨lb,0,none⟩) ls.length cap) row at' of ls):∀ b,(b=lb∨b=ob∨b=gb)→base≤b:=fun b hb=>by
  have:=(own_blk h.L).1
  have:=h.lo
  omega
theorem part_hi {w:World} {gb rb ab ob n base B1 lb cap:Nat} {row at' of:List Nat} {ls:List (Nat × Nat × Nat)} (h:Ms w gb rb ab ob n base B1 (.slice (some ⟨lb,0,none⟩) ls.length cap) row at' of ls):∀ b o,(b=lb∨b=ob∨b=gb)→B1≤b→w.heap[b]?=some o→∃ cs z,o=.cells cs 141 z:=fun b o hb hB ho=>by
  have:=h.hi
  rcases hb with rfl | rfl | rfl
  · obtain ⟨cur,hc⟩:=(own_blk h.L).2.2.2
    rw [hc] at ho
    injection ho with ho
    exact ⟨cur,_,ho.symm⟩
  · omega
  · omega
set_option maxRecDepth 100000 in
set_option maxHeartbeats 8000000 in
theorem part_whole (gb rb ab ob n base B1 i f t d q K:Nat) (lb cap:Nat) (row at' of:List Nat) (ls:List (Nat × Nat × Nat)) (w:World) (hM:Ms w gb rb ab ob n base B1 (.slice (some ⟨lb,0,none⟩) ls.length cap) row at' of ls) (hl:ls[i]?=some (f,t,d)) (hd:0 < d) (hq:q=f+d) (ht:t=q+0) (htn:t≤n) (hK:K=ls.length) (T:Nat→Prop) (K0:Nat) (of0:List Nat) (hP2:Hm.P2 n K0 of0 row at' of ls T):Calls Tryz.prog 93 #[.pointer (some ⟨gb,0,none⟩),.int .i64 (i:Int)] w fun e w'=>e=.returned (.tuple #[])∧∃ cap',Ms w' gb rb ab ob n base B1 (.slice (some ⟨lb,0,none⟩) (ls.set i (f,t,0)).length cap') row at' of (ls.set i (f,t,0))∧Only (fun b=>b=lb) w w':=by
  have hil:=(List.getElem?_eq_some_iff.1 hl).1
  obtain ⟨q0,q1,q2⟩:=gcs_at ls i f t d hl
  obtain ⟨lb',cap',hv,hlb1,hlb2,hcap,hcapm,hcell,cur,hcur⟩:=hM.nl
  injection hv with hv1 hv2 hv3
  injection hv1 with hv1
  injection hv1 with hv1
  subst hv1
  subst hv3
  clear hv2
  have n1:=hM.n1
  have kn:=hM.kn
  rw [← hK] at hcap kn hil
  unfold maxLen at hcapm
  have z3:w.cell? ⟨gb,3,none⟩=some (.slice (some ⟨lb,0,none⟩) K cap):=by rw [hK];exact cell_blk hM.G
  have z5:w.cell? ⟨lb,i*3,none⟩=some (.int .i64 (f:Int)):=(hcell _ (by omega)).trans q0
  have z6:w.cell? ⟨lb,i*3+1,none⟩=some (.int .i64 (t:Int)):=(hcell _ (by omega)).trans q1
  have z7:w.cell? ⟨lb,i*3+2,none⟩=some (.int .i64 (d:Int)):=(hcell _ (by omega)).trans q2
  have lgb:=hM.G.lt
  have HM:Hid (Ms w gb rb ab ob n base B1 (.slice (some ⟨lb,0,none⟩) ls.length cap) row at' of ls):=hM
  have HF:Hid (ls[i]?=some (f,t,d)∧K=ls.length∧q=f+d∧t=q+0):=⟨hl,hK,hq,ht⟩
  have HPI:Hid (Hm.Pi n row at' of ls T):=hP2.pi
  have HP2:Hid (Hm.P2 n K0 of0 row at' of ls T):=hP2
  have i1:(i:Int) < (K:Int):=by omega
  have s2:(f:Int)+(d:Int)=(q:Int):=by omega
  have hqn:q≤n:=by omega
  have hdn:d≤n:=by omega
  have d1:decide ((d:Int) < (0:Int))=false:=decide_eq_false (by omega)
  clear hM hl hcell hcur q0 q1 q2 hK hq ht hP2
  go_enter Tryz.func93,Tryz.ntmps93
  go_wp2_with fail
  go_cut [6,7] from 22 to 29 (fun v6 v7 wr=>∃ (ga sa:Nat) (W:World),W=wr∧v6=.pointer (some ⟨ga,0,none⟩)∧v7=.pointer (some ⟨sa,0,none⟩)∧W.heap[ga]?=some (.cells #[.int .i64 (f:Int),.int .i64 (q:Int),.int .i64 0] 141 (0,0))∧W.heap[sa]?=some (.cells #[.int .i64 (q:Int),.int .i64 (t:Int),.int .i64 0] 141 (0,0))∧ga≠sa∧w.heap.size≤ga∧w.heap.size≤sa∧Only (fun _=>False) w W)
  case first =>
    go_region
    all_goals
      go_wp2_with fail
      go_meet
      case rel=>first
        | exact ⟨_,_,_,rfl,rfl,rfl,al_mid _ _ _ _,al_last _ _ _ _,by omega,by omega,by omega,((((Only.refl _ _).alloc _).alloc _).alloc _).drew⟩
        | exact ⟨_,_,_,rfl,rfl,rfl,al_last _ _ _ _,al_mid _ _ _ _,by omega,by omega,by omega,((((Only.refl _ _).alloc _).alloc _).alloc _).drew⟩
  case rest =>
    obtain ⟨ga,sa,W,hW,e6,e7,hga,hsa,hne,hg1,hs1,ho⟩:=hcut
    subst hW
    subst e6
    subst e7
    have HGA:Hid (W.heap[ga]?=some (.cells #[.int .i64 (f:Int),.int .i64 (q:Int),.int .i64 0] 141 (0,0))):=hga
    have HSA:Hid (W.heap[sa]?=some (.cells #[.int .i64 (q:Int),.int .i64 (t:Int),.int .i64 0] 141 (0,0))):=hsa
    have HOW:Hid (Only (fun _=>False) w W):=ho
    clear hga hsa ho z3 z5 z6 z7 s2
    have HKC:Hid (∀ W',Only (fun _=>False) W W'→W'.cell? ⟨ga,0,none⟩=some (.int .i64 (f:Int))∧W'.cell? ⟨ga,1,none⟩=some (.int .i64 (q:Int))∧W'.cell? ⟨ga,2,none⟩=some (.int .i64 0)∧W'.cell? ⟨sa,0,none⟩=some (.int .i64 (q:Int))∧W'.cell? ⟨sa,1,none⟩=some (.int .i64 (t:Int))∧W'.cell? ⟨sa,2,none⟩=some (.int .i64 0)):=fun W' ho=>by
      have h1:=(ho.block ga (Array.getElem?_eq_some_iff.1 HGA.out).1 (fun h=>h)).trans HGA.out
      have h2:=(ho.block sa (Array.getElem?_eq_some_iff.1 HSA.out).1 (fun h=>h)).trans HSA.out
      exact ⟨cell_blk h1,cell_blk h1,cell_blk h1,cell_blk h2,cell_blk h2,cell_blk h2⟩
    obtain ⟨a0,a1,a2,b0,b1,b2⟩:=HKC.out W (Only.refl _ _)
    go_wp2_with fail
    go_cut [34] from 30 to 34 (fun v wr=>∃ (W':World),W'=wr∧v=.bool false∧Only (fun _=>False) W W')
    case first =>
      go_region_held3 (fun W'=>W'.cell? ⟨ga,0,none⟩=some (.int .i64 (f:Int))∧W'.cell? ⟨ga,1,none⟩=some (.int .i64 (q:Int))∧W'.cell? ⟨ga,2,none⟩=some (.int .i64 0)∧W'.cell? ⟨sa,0,none⟩=some (.int .i64 (q:Int))∧W'.cell? ⟨sa,1,none⟩=some (.int .i64 (t:Int))∧W'.cell? ⟨sa,2,none⟩=some (.int .i64 0)) (first | exact HKC.out _ (Only.refl _ _).drew | exact HKC.out _ (((Only.refl _ _).drew).alloc _) | exact HKC.out _ ((((Only.refl _ _).drew).alloc _).alloc _)) (first | (go_at_call 105;refine Calls.mono (size0_any f q d _ HF.out.2.2.1 (by omega)) ?_;rintro e w9 ⟨rfl,rfl⟩) | (go_at_call 105;refine Calls.mono (size0_any q t 0 _ HF.out.2.2.2 (by omega)) ?_;rintro e w9 ⟨rfl,rfl⟩) | fail)
      all_goals
        go_wp2_with fail
        go_meet
        case rel=>exact ⟨_,rfl,rfl,(((Only.refl _ _).drew).alloc _).alloc _⟩
    case rest =>
      obtain ⟨V,hV,e34,hoV⟩:=hcut
      subst hV
      subst e34
      have HOV:Hid (Only (fun _=>False) w V):=HOW.out.trans hoV
      have HOWV:Hid (Only (fun _=>False) W V):=hoV
      clear a0 a1 a2 b0 b1 b2 hoV
      obtain ⟨a0,a1,a2,b0,b1,b2⟩:=HKC.out V HOWV.out
      have HMV:Hid (Ms V gb rb ab ob n base B1 (.slice (some ⟨lb,0,none⟩) ls.length cap) row at' of ls):=HM.out.keep HOV.out (fun _ h=>h.elim) (fun _ _ h=>h.elim)
      obtain ⟨z3,z5,z6,z7,fz⟩:=HMV.out.reads HF.out.1
      rw [← HF.out.2.1] at z3
      have lgbV:=HMV.out.G.lt
      have lgaV:=World.block_lt_of_cell? V _ a0
      have lsaV:=World.block_lt_of_cell? V _ b0
      have llbV:=World.block_lt_of_cell? V _ z5
      go_wp2_with fail
      have HSV:Hid (V.heap[sa]?=some (.cells #[.int .i64 (q:Int),.int .i64 (t:Int),.int .i64 0] 141 (0,0))):=(HOWV.out.block sa (Array.getElem?_eq_some_iff.1 HSA.out).1 (fun h=>h)).trans HSA.out
      go_region
      obtain ⟨V2,hV2⟩:∃ V2,V2=(((V.setCell ⟨lb,i*3,none⟩ (.int .i64 (f:Int))).setCell ⟨lb,i*3+1,none⟩ (.int .i64 (q:Int))).setCell ⟨lb,i*3+2,none⟩ (.int .i64 0)).drew:=⟨_,rfl⟩
      have HM2:Hid (Ms V2 gb rb ab ob n base B1 (.slice (some ⟨lb,0,none⟩) (ls.set i (f,q,0)).length cap) row at' of (ls.set i (f,q,0))):=by rw [hV2];exact (HMV.out.put (by have:=HF.out.2.1;omega)).drew
      have HO2:Hid (Only (fun b=>b=lb) V V2):=by rw [hV2];exact ((((Only.refl (fun b=>b=lb) V).setCell (p:=⟨lb,i*3,none⟩) rfl _).setCell (p:=⟨lb,i*3+1,none⟩) rfl _).setCell (p:=⟨lb,i*3+2,none⟩) rfl _).drew
      rw [← hV2]
      clear hV2
      have hslb:sa≠lb:=by omega
      have HSB:Hid (V2.heap[sa]?=some (.cells #[.int .i64 (q:Int),.int .i64 (t:Int),.int .i64 0] 141 (0,0))):=(HO2.out.block sa lsaV hslb).trans HSV.out
      have HOw2:Hid (Only (fun b=>b=lb) w V2):=(HOV.out.mono (fun _ h=>h.elim)).trans HO2.out
      clear a0 a1 a2 b0 b1 b2 z3 z5 z6 z7 fz lgbV lgaV lsaV llbV
      have b0:V2.cell? ⟨sa,0,none⟩=some (.int .i64 (q:Int)):=cell_blk HSB.out
      have b1:V2.cell? ⟨sa,1,none⟩=some (.int .i64 (t:Int)):=cell_blk HSB.out
      have b2:V2.cell? ⟨sa,2,none⟩=some (.int .i64 0):=cell_blk HSB.out
      have lsa2:sa < V2.heap.size:=World.block_lt_of_cell? V2 _ b0
      go_wp2_with (first | (go_at_call 105;refine Calls.mono (size0_any q t 0 V2 HF.out.2.2.2 (by omega)) ?_;rintro e w9 ⟨rfl,rfl⟩))
      refine bodyPost_ret (results_none Tryz.results93 _ _ _) rfl ?_
      have eq:q=t:=by have:=HF.out.2.2.2;omega
      subst eq
      exact ⟨rfl,_,HM2.out.alloc _,(HOw2.out.alloc _)⟩
end Go.Proofs.YtchaoonefiamdaaGreatDoor.L
namespace Go.Proofs.YtchaoonefiamdaaGreatDoor.L
open Go.RowKit Go.Maps
set_option linter.unusedVariables false
set_option linter.unusedSimpArgs false
set_option maxRecDepth 100000 in
set_option maxHeartbeats 8000000 in
theorem part_big (gb rb ab ob n base B1 i f t d q r K:Nat) (lb cap:Nat) (row at' of:List Nat) (ls:List (Nat × Nat × Nat)) (w:World) (hM:Ms w gb rb ab ob n base B1 (.slice (some ⟨lb,0,none⟩) ls.length cap) row at' of ls) (hl:ls[i]?=some (f,t,d)) (hd:0 < d) (hq:q=f+d) (ht:t=q+r) (htn:t≤n) (hr:0 < r) (hlt:¬ d < r) (hK:K=ls.length) (T:Nat→Prop) (K0:Nat) (of0:List Nat) (hP2:Hm.P2 n K0 of0 row at' of ls T):Calls Tryz.prog 93 #[.pointer (some ⟨gb,0,none⟩),.int .i64 (i:Int)] w fun e w'=>e=.returned (.tuple #[])∧∃ lb' cap' of' ls',Ms w' gb rb ab ob n base B1 (.slice (some ⟨lb',0,none⟩) ls'.length cap') row at' of' ls'∧Hm.P2 n K0 of0 row at' of' ls' T∧(∀ x:Nat,(∃ f t d,ls'[x]?=some (f,t,d)∧0 < d)↔(x≠i∧∃ f t d,ls[x]?=some (f,t,d)∧0 < d))∧Kp base B1 w w':=by
  have hil:=(List.getElem?_eq_some_iff.1 hl).1
  obtain ⟨q0,q1,q2⟩:=gcs_at ls i f t d hl
  obtain ⟨lb',cap',hv,hlb1,hlb2,hcap,hcapm,hcell,cur,hcur⟩:=hM.nl
  injection hv with hv1 hv2 hv3
  injection hv1 with hv1
  injection hv1 with hv1
  subst hv1
  subst hv3
  clear hv2
  have n1:=hM.n1
  have kn:=hM.kn
  rw [← hK] at hcap kn hil
  unfold maxLen at hcapm
  have z3:w.cell? ⟨gb,3,none⟩=some (.slice (some ⟨lb,0,none⟩) K cap):=by rw [hK];exact cell_blk hM.G
  have z5:w.cell? ⟨lb,i*3,none⟩=some (.int .i64 (f:Int)):=(hcell _ (by omega)).trans q0
  have z6:w.cell? ⟨lb,i*3+1,none⟩=some (.int .i64 (t:Int)):=(hcell _ (by omega)).trans q1
  have z7:w.cell? ⟨lb,i*3+2,none⟩=some (.int .i64 (d:Int)):=(hcell _ (by omega)).trans q2
  have lgb:=hM.G.lt
  have HM:Hid (Ms w gb rb ab ob n base B1 (.slice (some ⟨lb,0,none⟩) ls.length cap) row at' of ls):=hM
  have HF:Hid (ls[i]?=some (f,t,d)∧K=ls.length∧q=f+d∧t=q+r):=⟨hl,hK,hq,ht⟩
  have HPI:Hid (Hm.Pi n row at' of ls T):=hP2.pi
  have HP2:Hid (Hm.P2 n K0 of0 row at' of ls T):=hP2
  have i1:(i:Int) < (K:Int):=by omega
  have s2:(f:Int)+(d:Int)=(q:Int):=by omega
  have hqn:q≤n:=by omega
  have hdn:d≤n:=by omega
  have hrn:r≤n:=by omega
  have d1:decide ((d:Int) < (r:Int))=false:=decide_eq_false (by omega)
  clear hM hl hcell hcur q0 q1 q2 hK hq ht hP2
  go_enter Tryz.func93,Tryz.ntmps93
  go_wp2_with fail
  go_cut [6,7] from 22 to 29 (fun v6 v7 wr=>∃ (ga sa:Nat) (W:World),W=wr∧v6=.pointer (some ⟨ga,0,none⟩)∧v7=.pointer (some ⟨sa,0,none⟩)∧W.heap[ga]?=some (.cells #[.int .i64 (f:Int),.int .i64 (q:Int),.int .i64 0] 141 (0,0))∧W.heap[sa]?=some (.cells #[.int .i64 (q:Int),.int .i64 (t:Int),.int .i64 0] 141 (0,0))∧ga≠sa∧w.heap.size≤ga∧w.heap.size≤sa∧Only (fun _=>False) w W)
  case first =>
    go_region
    all_goals
      go_wp2_with fail
      go_meet
      case rel=>first
        | exact ⟨_,_,_,rfl,rfl,rfl,al_mid _ _ _ _,al_last _ _ _ _,by omega,by omega,by omega,((((Only.refl _ _).alloc _).alloc _).alloc _).drew⟩
        | exact ⟨_,_,_,rfl,rfl,rfl,al_last _ _ _ _,al_mid _ _ _ _,by omega,by omega,by omega,((((Only.refl _ _).alloc _).alloc _).alloc _).drew⟩
  case rest =>
    obtain ⟨ga,sa,W,hW,e6,e7,hga,hsa,hne,hg1,hs1,ho⟩:=hcut
    subst hW
    subst e6
    subst e7
    have HGA:Hid (W.heap[ga]?=some (.cells #[.int .i64 (f:Int),.int .i64 (q:Int),.int .i64 0] 141 (0,0))):=hga
    have HSA:Hid (W.heap[sa]?=some (.cells #[.int .i64 (q:Int),.int .i64 (t:Int),.int .i64 0] 141 (0,0))):=hsa
    have HOW:Hid (Only (fun _=>False) w W):=ho
    clear hga hsa ho z3 z5 z6 z7 s2
    have HKC:Hid (∀ W',Only (fun _=>False) W W'→W'.cell? ⟨ga,0,none⟩=some (.int .i64 (f:Int))∧W'.cell? ⟨ga,1,none⟩=some (.int .i64 (q:Int))∧W'.cell? ⟨ga,2,none⟩=some (.int .i64 0)∧W'.cell? ⟨sa,0,none⟩=some (.int .i64 (q:Int))∧W'.cell? ⟨sa,1,none⟩=some (.int .i64 (t:Int))∧W'.cell? ⟨sa,2,none⟩=some (.int .i64 0)):=fun W' ho=>by
      have h1:=(ho.block ga (Array.getElem?_eq_some_iff.1 HGA.out).1 (fun h=>h)).trans HGA.out
      have h2:=(ho.block sa (Array.getElem?_eq_some_iff.1 HSA.out).1 (fun h=>h)).trans HSA.out
      exact ⟨cell_blk h1,cell_blk h1,cell_blk h1,cell_blk h2,cell_blk h2,cell_blk h2⟩
    obtain ⟨a0,a1,a2,b0,b1,b2⟩:=HKC.out W (Only.refl _ _)
    go_wp2_with fail
    go_cut [34] from 30 to 34 (fun v wr=>∃ (W':World),W'=wr∧v=.bool false∧Only (fun _=>False) W W')
    case first =>
      go_region_held3 (fun W'=>W'.cell? ⟨ga,0,none⟩=some (.int .i64 (f:Int))∧W'.cell? ⟨ga,1,none⟩=some (.int .i64 (q:Int))∧W'.cell? ⟨ga,2,none⟩=some (.int .i64 0)∧W'.cell? ⟨sa,0,none⟩=some (.int .i64 (q:Int))∧W'.cell? ⟨sa,1,none⟩=some (.int .i64 (t:Int))∧W'.cell? ⟨sa,2,none⟩=some (.int .i64 0)) (first | exact HKC.out _ (Only.refl _ _).drew | exact HKC.out _ (((Only.refl _ _).drew).alloc _) | exact HKC.out _ ((((Only.refl _ _).drew).alloc _).alloc _)) (first | (go_at_call 105;refine Calls.mono (size0_any f q d _ HF.out.2.2.1 (by omega)) ?_;rintro e w9 ⟨rfl,rfl⟩) | (go_at_call 105;refine Calls.mono (size0_any q t r _ HF.out.2.2.2 (by omega)) ?_;rintro e w9 ⟨rfl,rfl⟩) | fail)
      all_goals
        go_wp2_with fail
        go_meet
        case rel=>exact ⟨_,rfl,rfl,(((Only.refl _ _).drew).alloc _).alloc _⟩
    case rest =>
      obtain ⟨V,hV,e34,hoV⟩:=hcut
      subst hV
      subst e34
      have HOV:Hid (Only (fun _=>False) w V):=HOW.out.trans hoV
      have HOWV:Hid (Only (fun _=>False) W V):=hoV
      clear a0 a1 a2 b0 b1 b2 hoV
      obtain ⟨a0,a1,a2,b0,b1,b2⟩:=HKC.out V HOWV.out
      have HMV:Hid (Ms V gb rb ab ob n base B1 (.slice (some ⟨lb,0,none⟩) ls.length cap) row at' of ls):=HM.out.keep HOV.out (fun _ h=>h.elim) (fun _ _ h=>h.elim)
      obtain ⟨z3,z5,z6,z7,fz⟩:=HMV.out.reads HF.out.1
      rw [← HF.out.2.1] at z3
      have lgbV:=HMV.out.G.lt
      have lgaV:=World.block_lt_of_cell? V _ a0
      have lsaV:=World.block_lt_of_cell? V _ b0
      have llbV:=World.block_lt_of_cell? V _ z5
      go_wp2_with fail
      have HSV:Hid (V.heap[sa]?=some (.cells #[.int .i64 (q:Int),.int .i64 (t:Int),.int .i64 0] 141 (0,0))):=(HOWV.out.block sa (Array.getElem?_eq_some_iff.1 HSA.out).1 (fun h=>h)).trans HSA.out
      go_region
      obtain ⟨V2,hV2⟩:∃ V2,V2=(((V.setCell ⟨lb,i*3,none⟩ (.int .i64 (f:Int))).setCell ⟨lb,i*3+1,none⟩ (.int .i64 (q:Int))).setCell ⟨lb,i*3+2,none⟩ (.int .i64 0)).drew:=⟨_,rfl⟩
      have HM2:Hid (Ms V2 gb rb ab ob n base B1 (.slice (some ⟨lb,0,none⟩) (ls.set i (f,q,0)).length cap) row at' of (ls.set i (f,q,0))):=by rw [hV2];exact (HMV.out.put (by have:=HF.out.2.1;omega)).drew
      have HO2:Hid (Only (fun b=>b=lb) V V2):=by rw [hV2];exact ((((Only.refl (fun b=>b=lb) V).setCell (p:=⟨lb,i*3,none⟩) rfl _).setCell (p:=⟨lb,i*3+1,none⟩) rfl _).setCell (p:=⟨lb,i*3+2,none⟩) rfl _).drew
      rw [← hV2]
      clear hV2
      have hslb:sa≠lb:=by omega
      have HSB:Hid (V2.heap[sa]?=some (.cells #[.int .i64 (q:Int),.int .i64 (t:Int),.int .i64 0] 141 (0,0))):=(HO2.out.block sa lsaV hslb).trans HSV.out
      have HOw2:Hid (Only (fun b=>b=lb) w V2):=(HOV.out.mono (fun _ h=>h.elim)).trans HO2.out
      clear a0 a1 a2 b0 b1 b2 z3 z5 z6 z7 fz lgbV lgaV lsaV llbV
      have b0:V2.cell? ⟨sa,0,none⟩=some (.int .i64 (q:Int)):=cell_blk HSB.out
      have b1:V2.cell? ⟨sa,1,none⟩=some (.int .i64 (t:Int)):=cell_blk HSB.out
      have b2:V2.cell? ⟨sa,2,none⟩=some (.int .i64 0):=cell_blk HSB.out
      have lsa2:sa < V2.heap.size:=World.block_lt_of_cell? V2 _ b0
      have lgb2:=HM2.out.G.lt
      have m1:¬ (r:Int)=0:=by omega
      have m2:((r:Int) == 0)=false:=by simpa using m1
      have hKs:(ls.set i (f,q,0)).length=K:=by rw [List.length_set];exact HF.out.2.1.symm
      have HKS:Hid ((ls.set i (f,q,0)).length=K):=hKs
      have hc1:q < n:=by have:=HF.out.2.2.1;have:=HF.out.2.2.2;omega
      clear hKs
      go_wp2_with (first | (go_at_call 105;refine Calls.mono (size0_any q t r V2 (HF.out.2.2.2) (by omega)) ?_;rintro e w9 ⟨rfl,rfl⟩;have c0:(V2.alloc (.cells #[.int .i64 (q:Int),.int .i64 (t:Int),.int .i64 0] 141)).cell? ⟨sa,0,none⟩=some (.int .i64 (q:Int)):=(World.cell?_alloc_lt _ _ _ lsa2).trans b0;have c1:(V2.alloc (.cells #[.int .i64 (q:Int),.int .i64 (t:Int),.int .i64 0] 141)).cell? ⟨sa,1,none⟩=some (.int .i64 (t:Int)):=(World.cell?_alloc_lt _ _ _ lsa2).trans b1;have c2:(V2.alloc (.cells #[.int .i64 (q:Int),.int .i64 (t:Int),.int .i64 0] 141)).cell? ⟨sa,2,none⟩=some (.int .i64 0):=(World.cell?_alloc_lt _ _ _ lsa2).trans b2) | (go_at_call 74;refine Calls.mono (states_any gb rb ab ob n q t r 0 _ _ (HM2.out.alloc _).G (HF.out.2.2.2) (by omega) hc1 (by omega)) ?_;rintro e w10 ⟨rfl,ho10⟩;have HO10:Hid (Only (fun _=>False) V2 w10):=((Only.refl _ _).alloc _).trans ho10;clear ho10))
      obtain ⟨V3,hV3⟩:∃ V3,V3=w10:=⟨_,rfl⟩
      rw [← hV3] at HO10
      rw [← hV3]
      clear hV3 c0 c1 c2 b0 b1 b2
      have HM3:Hid (Ms V3 gb rb ab ob n base B1 (.slice (some ⟨lb,0,none⟩) (ls.set i (f,q,0)).length cap) row at' of (ls.set i (f,q,0))):=HM2.out.keep HO10.out (fun _ h=>h.elim) (fun _ _ h=>h.elim)
      have HSC:Hid (V3.heap[sa]?=some (.cells #[.int .i64 (q:Int),.int .i64 (t:Int),.int .i64 0] 141 (0,0))):=(HO10.out.block sa lsa2 (fun h=>h)).trans HSB.out
      have HSA0:Hid (sa≠ob∧sa≠gb∧sa≠lb∧lb < w.heap.size∧w.heap.size≤sa):=by
        refine ⟨fun e=>?_,fun e=>?_,hslb,hlb2,hs1⟩
        · have:=HM3.out.o
          unfold Nb at this
          rw [← e,HSC.out] at this
          injection this with this
          injection this with _ this
          cases this
        · have:=HM3.out.G
          unfold Gb at this
          rw [← e,HSC.out] at this
          injection this with this
          injection this with _ this
          cases this
      have hmn:r≤n:=by omega
      have hcn:q+r≤n:=by have:=HF.out.2.2.1;have:=HF.out.2.2.2;omega
      go_loopg [51] r (fun gh v wr=>∃ (x:Nat) (of2:List Nat) (Y:World),Y=wr∧gh=r - x∧x≤r∧v=.int .i64 (x:Int)∧Ms Y gb rb ab ob n base B1 (.slice (some ⟨lb,0,none⟩) (ls.set i (f,q,0)).length cap) row at' of2 (ls.set i (f,q,0))∧of2.length=n∧(∀ p s:Nat,row[p]?=some s→of2[s]?=if q≤p∧p < q+x then some K else of[s]?)∧Only (fun b=>b=ob) V3 Y)
      case atStart=>exact ⟨0,of,_,rfl,rfl,Nat.zero_le _,rfl,HM3.out,HPI.out.ol,fun p s hp=>by rw [if_neg (by omega)],Only.refl _ _⟩
      case round =>
        obtain ⟨x,of2,Y,hY,rfl,hx,rfl,hMY,hol,hof,hoY⟩:=hrel
        subst hY
        have HMY:Hid (Ms Y gb rb ab ob n base B1 (.slice (some ⟨lb,0,none⟩) (ls.set i (f,q,0)).length cap) row at' of2 (ls.set i (f,q,0))):=hMY
        have HOF:Hid (of2.length=n∧∀ p s:Nat,row[p]?=some s→of2[s]?=if q≤p∧p < q+x then some K else of[s]?):=⟨hol,hof⟩
        have HOY:Hid (Only (fun b=>b=ob) V3 Y):=hoY
        have g2:Y.cell? ⟨gb,2,none⟩=some (.slice (some ⟨ob,0,none⟩) n n):=cell_blk hMY.G
        have g3:Y.cell? ⟨gb,3,none⟩=some (.slice (some ⟨lb,0,none⟩) K cap):=by rw [← HKS.out];exact cell_blk hMY.G
        have lgbY:=hMY.G.lt
        have lrbY:=hMY.r.lt
        have lobY:=hMY.o.lt
        clear hMY hol hof hoY
        by_cases hlt2:x < r
        · have t1:(x:Int) < (r:Int):=by omega
          have hrl:=HPI.out.rl
          obtain ⟨u,hu⟩:∃ u,row[q+x]?=some u:=⟨_,List.getElem?_eq_getElem (by omega)⟩
          have HU:Hid (row[q+x]?=some u):=hu
          have cu:=HMY.out.r.cell hu
          have hun:u < n:=(HPI.out.ra _ _ hu).1
          have iu:(u:Int) < (n:Int):=by omega
          obtain ⟨y1,hy1⟩:∃ y1,of2[u]?=some y1:=⟨_,List.getElem?_eq_getElem (by have:=HOF.out.1;omega)⟩
          have co:=HMY.out.o.cell hy1
          have fo:∀ z,Y.frozen? ⟨ob,z,none⟩=false:=fun z=>HMY.out.o.fz z
          clear hu hrl hy1
          go_wp2_with fail
          go_region
          all_goals
            go_wp2_with fail
            go_roundg (r - (x+1))
            case measure=>omega
            case rel =>
              refine ⟨x+1,of2.set u K,_,rfl,rfl,by omega,by go_num,HMY.out.of'.drew,by rw [List.length_set];exact HOF.out.1,fun p s hp=>?_,((HOY.out.setCell (p:=⟨ob,u,none⟩) rfl _).drew)⟩
              have hul:u < of2.length:=by have:=HOF.out.1;omega
              rw [Hm.get_set hul]
              by_cases e:u=s
              · subst e
                rw [if_pos rfl]
                have h1:=(HPI.out.ra p u hp).2
                have h2:=(HPI.out.ra _ u HU.out).2
                rw [h1] at h2
                injection h2 with h2
                rw [if_pos (by omega)]
              · rw [if_neg e,HOF.out.2 p s hp]
                have:p≠q+x:=fun e2=>e (by rw [e2,HU.out] at hp;injection hp)
                by_cases h1:q≤p∧p < q+x
                · rw [if_pos h1,if_pos (by omega)]
                · rw [if_neg h1,if_neg (by omega)]
        · have t2:decide ((x:Int) < (r:Int))=false:=decide_eq_false (by omega)
          have hxm:=Nat.le_antisymm hx (Nat.le_of_not_lt hlt2)
          subst hxm
          have HSY:Hid (Y.heap[sa]?=some (.cells #[.int .i64 (q:Int),.int .i64 (t:Int),.int .i64 0] 141 (0,0))):=(HOY.out.block sa (Array.getElem?_eq_some_iff.1 HSC.out).1 HSA0.out.1).trans HSC.out
          have b0:Y.cell? ⟨sa,0,none⟩=some (.int .i64 (q:Int)):=cell_blk HSY.out
          have b1:Y.cell? ⟨sa,1,none⟩=some (.int .i64 (t:Int)):=cell_blk HSY.out
          have b2:Y.cell? ⟨sa,2,none⟩=some (.int .i64 0):=cell_blk HSY.out
          have lsaY:=World.block_lt_of_cell? Y _ b0
          obtain ⟨i6,g6,g60,g61,g62⟩:=info_parts info62
          have hown:Hid (Y.ownsRow base 141 3 (.slice (some ⟨lb,0,none⟩) K cap) K (gcs (ls.set i (f,q,0)))):=by have:=HMY.out.L;rw [HKS.out] at this;exact this
          have hbY:base≤Y.heap.size:=by have:=HMY.out.lo.1;omega
          go_wp2_with fail
          go_region_law (refine step_append_lies _ (by rfl) _ _ _ (by rfl) base 141 i6 _ 3 24 Tryz.underlying136 g6 g60 g61 g62 rfl (by decide) (.slice (some ⟨lb,0,none⟩) K cap) K (gcs (ls.set i (f,q,0))) (by rfl) (by exact hown.out.alloc _) ⟨Y.heap.size,0,none⟩ 1 1 (gc (q,t,0)) (by rfl) rfl (World.news_of_block (cs:=#[.int .i64 (q:Int),.int .i64 (t:Int),.int .i64 0]) (heap_alloc_new Y (.cells #[.int .i64 (q:Int),.int .i64 (t:Int),.int .i64 0] 141))) (fun u hu=>by simp [gc] at hu;rcases hu with rfl | rfl | rfl <;> rfl) (by decide) (by unfold maxLen;omega) (by omega) (by simp;omega) (Y.heap.size+1) (by simp) ?_;intro g5 cap5 w5 hown5 hgrow5 hat5 hlt5;have HO5:Hid (Only (fun b=>b=lb) Y w5):=(((Only.refl (fun b=>b=lb) Y).alloc _).drew).grown hgrow5 (fun k hk=>by injection hk with hk;exact hk.symm);have HW5:Hid (w5.ownsRow base 141 3 (.slice (some ⟨g5,0,none⟩) (K+1) cap5) (K+1) (gcs (ls.set i (f,q,0))++gc (q,t,0))):=hown5;have hgl:gb≠lb:=(fun e=>HMY.out.ne.2.2.2 e.symm);have G5:w5.heap[gb]?=Y.heap[gb]?:=HO5.out.block gb lgbY hgl;have q3:w5.cell? ⟨gb,3,none⟩=some (.slice (some ⟨lb,0,none⟩) K cap):=(World.cell?_of_block (a:=⟨gb,3,none⟩) G5).trans g3;have f3:w5.frozen? ⟨gb,3,none⟩=false:=fz_blk (G5.trans HMY.out.G) 3;clear hown5 hgrow5 hat5 G5)
          all_goals
            go_wp2_with fail
            go_end0
            have hP3:=HP2.out.parted (of':=of2) HF.out.1 hd (by have:=HF.out.2.2.1;have:=HF.out.2.2.2;omega) (Or.inl ⟨rfl,HF.out.2.2.1,HF.out.2.2.1,rfl⟩) HOF.out.1 (fun p s hp=>by rw [HOF.out.2 p s hp,← HF.out.2.1,show q+x=t by have:=HF.out.2.2.1;have:=HF.out.2.2.2;omega]) (a:=f) (b:=q) (c:=q) (e:=t)
            have hfew:=hP3.pi.few
            rw [List.length_append,HKS.out] at hfew
            have HSF:Only (fun b=>b=lb∨b=ob∨b=gb) w w5:=(((HOw2.out.mono (fun b h=>Or.inl h)).trans (HO10.out.mono (fun _ h=>h.elim))).trans (HOY.out.mono (fun b h=>Or.inr (Or.inl h)))).trans (HO5.out.mono (fun b h=>Or.inl h))
            exact ⟨rfl,g5,cap5,of2,_,HMY.out.more HKS.out HO5.out HW5.out (by simpa using hfew),hP3,part_mem HF.out.1,(Kp.of (S:=fun b=>b=lb∨b=ob∨b=gb) (HSF.setCell (p:=⟨gb,3,none⟩) (Or.inr (Or.inr rfl)) _) (part_lo HM.out) (part_hi HM.out))⟩
end Go.Proofs.YtchaoonefiamdaaGreatDoor.L
