/- LCk LCk2 -/
import Derived.Test.YtchaoonefiamdaaGreatDoorZ32
namespace Go.Proofs.YtchaoonefiamdaaGreatDoor.L
open Go.RowKit Go.Maps
set_option linter.unusedVariables false
set_option linter.unusedSimpArgs false
set_option maxRecDepth 100000 in
set_option maxHeartbeats 4000000 in
theorem check_true (aO:Option Addr) (cO n nc bn on cN:Nat) (nx:Nat→Nat→Nat) (w:World) (h0:0 < n) (hn:n≤100000) (hc:nc≤100000) (hN:Nxt w n nc bn on nx) :
    Calls Tryz.prog 51 #[.agg #[.slice (some ⟨bn,on,none⟩) n cN,.slice aO n cO]] w fun e w'=>e=.returned (.bool true)∧Only (fun _=>False) w w':=by
  have HN:Hid (Nxt w n nc bn on nx):=hN
  obtain ⟨a0,c0,hc0,_⟩:=hN 0 h0
  rw [Nat.add_zero] at hc0
  have lbn:=World.block_lt_of_cell? w _ hc0
  have t0:(0:Int) < (n:Int):=by omega
  have e0:((n:Int) == 0)=false:=by rw [beq_eq_false_iff_ne];omega
  have e1:((n:Int) == (n:Int))=true:=by simp
  have e2:((nc:Int) == (nc:Int))=true:=by simp
  clear hN
  obtain ⟨W,hW⟩:∃ W,W=w.alloc (.cells #[.slice (some ⟨bn,on,none⟩) n cN,.slice aO n cO] 63):=⟨_,rfl⟩
  have HW:Hid (W.heap[w.heap.size]?=some (.cells #[.slice (some ⟨bn,on,none⟩) n cN,.slice aO n cO] 63 (0,0))∧Only (fun _=>False) w W):=by rw [hW];exact ⟨heap_alloc_new w _,(Only.refl _ _).alloc _⟩
  have p0:W.cell? ⟨w.heap.size,0,none⟩=some (.slice (some ⟨bn,on,none⟩) n cN):=cell_blk HW.out.1
  have p1:W.cell? ⟨w.heap.size,1,none⟩=some (.slice aO n cO):=cell_blk HW.out.1
  have lp:=World.block_lt_of_cell? W _ p0
  have p2:W.cell? ⟨bn,on,none⟩=some (.slice a0 nc c0):=(World.cell?_of_block (a:=⟨bn,on,none⟩) (HW.out.2.block bn lbn (fun h=>h))).trans hc0
  have lbW:=World.block_lt_of_cell? W _ p2
  go_enter Tryz.func51,Tryz.ntmps51
  go_wp2_with fail
  rw [← hW]
  clear hW hc0
  go_loopg [23] n (fun gh v wr=>∃ (s:Nat),W=wr∧gh=n - s∧s≤n∧v=.int .i64 (s:Int))
  case atStart=>exact ⟨0,rfl,rfl,Nat.zero_le _,rfl⟩
  case round =>
    obtain ⟨s,hY,rfl,hs,rfl⟩:=hrel
    subst hY
    by_cases hlt:s < n
    · have t1:(s:Int) < (n:Int):=by omega
      obtain ⟨a1,c1,n1,n2⟩:=(HN.out.keep HW.out.2) s hlt
      have HN2:Hid (∀ k,k < nc→∃ b o,a1=some ⟨b,o,none⟩∧W.cell? ⟨b,o+k,none⟩=some (.int .i64 (nx s k:Int))∧nx s k < n):=n2
      have l1:=World.block_lt_of_cell? W _ n1
      clear n2
      go_wp2_with fail
      go_loopg [37] nc (fun gh v wr=>∃ (k:Nat),W=wr∧gh=nc - k∧k≤nc∧v=.int .i64 (k:Int))
      case atStart=>exact ⟨0,rfl,rfl,Nat.zero_le _,rfl⟩
      case round =>
        obtain ⟨k,hY,rfl,hk,rfl⟩:=hrel
        subst hY
        by_cases hlt2:k < nc
        · have t3:(k:Int) < (nc:Int):=by omega
          obtain ⟨b,o,rfl,q1,q2⟩:=HN2.out k hlt2
          have l2:=World.block_lt_of_cell? W _ q1
          have t4:decide ((nx s k:Int) < 0)=false:=decide_eq_false (by omega)
          have t5:decide ((n:Int)≤(nx s k:Int))=false:=decide_eq_false (by omega)
          go_wp2_with fail
          go_roundg (nc - (k+1))
          case measure=>omega
          case rel=>exact ⟨k+1,rfl,rfl,by omega,by go_num⟩
        · have t4:decide ((k:Int) < (nc:Int))=false:=decide_eq_false (by omega)
          go_wp2_with fail
          go_roundg (n - (s+1))
          case measure=>omega
          case rel=>exact ⟨s+1,rfl,rfl,by omega,by go_num⟩
    · have t2:decide ((s:Int) < (n:Int))=false:=decide_eq_false (by omega)
      go_wp2_with fail
      go_ret
      exact ⟨rfl,HW.out.2⟩
end Go.Proofs.YtchaoonefiamdaaGreatDoor.L
namespace Go.Proofs.YtchaoonefiamdaaGreatDoor.L
open Go.RowKit Go.Maps
set_option linter.unusedVariables false
set_option linter.unusedSimpArgs false
def Any (W:World) (n bn on:Nat) (len:Nat→Nat) (val:Nat→Nat→Int):Prop:=∀ s,s < n→∃ a c,W.cell? ⟨bn,on+s,none⟩=some (.slice a (len s) c)∧∀ k,k < len s→∃ b o,a=some ⟨b,o,none⟩∧W.cell? ⟨b,o+k,none⟩=some (.int .i64 (val s k))
theorem Any.keep {w W:World} {n bn on:Nat} {len:Nat→Nat} {val:Nat→Nat→Int} (h:Any w n bn on len val) (ho:Only (fun _=>False) w W):Any W n bn on len val:=fun s hs=>by
  obtain ⟨a,c,h1,h2⟩:=h s hs
  have kk:∀ b i v,w.cell? ⟨b,i,none⟩=some v→W.cell? ⟨b,i,none⟩=some v:=fun b i v hv=>(World.cell?_of_block (a:=⟨b,i,none⟩) (ho.block b (World.block_lt_of_cell? w _ hv) (fun h=>h))).trans hv
  refine ⟨a,c,kk _ _ _ h1,fun k hk=>?_⟩
  obtain ⟨b,o,e,e1⟩:=h2 k hk
  exact ⟨b,o,e,kk _ _ _ e1⟩
end Go.Proofs.YtchaoonefiamdaaGreatDoor.L
