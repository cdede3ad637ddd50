/- LRp1 -/
import Derived.Test.YtchaoonefiamdaaGreatDoorZ33
namespace Go.Proofs.YtchaoonefiamdaaGreatDoor.L
open Go.RowKit Go.Maps
set_option linter.unusedVariables false
set_option linter.unusedSimpArgs false
set_option maxRecDepth 100000 in
set_option maxHeartbeats 2000000 in
theorem repeat_any (b n:Nat) (w:World) (h0:0 < n) (hn:n≤100000) (hx:w.cell? ⟨b,0,none⟩=some (.int .i64 (-1))) :
    Calls Tryz.prog 68 #[.slice (some ⟨b,0,none⟩) 1 1,.int .i64 (n:Int)] w fun e w'=>e=.returned (.slice (some ⟨w.heap.size,0,none⟩) n n)∧w'.heap[w.heap.size]?=some (.cells (rowOf n (fun _=>.int .i64 (-1))) 3 (0,0))∧Only (fun _=>False) w w':=by
  have hmk:=fun (w:World)=>run_make_row' (P:=Tryz.prog) 23 3 (.int .i64 0) 8 Tryz.underlying23 info3b rfl .i64 .i64 n (by omega) (by omega) w
  have lb:=World.block_lt_of_cell? w _ hx
  have hA:(w.alloc (.cells (madeCells #[.int .i64 0] n) 3)).heap[w.heap.size]?=some (.cells (rowOf n (rpV 0)) 3 (0,0)):=by rw [heap_alloc_new,made_rp]
  have hx':(w.alloc (.cells (madeCells #[.int .i64 0] n) 3)).cell? ⟨b,0,none⟩=some (.int .i64 (-1)):=(World.cell?_of_block (a:=⟨b,0,none⟩) (Below.heap_alloc _ _ _ lb)).trans hx
  have hcp:=rp_first (w.alloc (.cells (madeCells #[.int .i64 0] n) 3)) w.heap.size n b h0 hx' hA
  have t0:decide ((n:Int) < 0)=false:=decide_eq_false (by omega)
  have e1:IntKind.u64.wrap (n:Int)=(n:Int):=by rw [IntKind.wrap_u64];omega
  have e2:decide ((9223372036854775807:Int) < (n:Int))=false:=decide_eq_false (by omega)
  obtain ⟨W,hW⟩:∃ W,W=(w.alloc (.cells (madeCells #[.int .i64 0] n) 3)).setRow w.heap.size (rowOf n (rpV 1)):=⟨_,rfl⟩
  have HW:Hid (W.heap[w.heap.size]?=some (.cells (rowOf n (rpV 1)) 3 (0,0))∧Only (fun _=>False) w W):=by
    rw [hW]
    refine ⟨setRow_blk hA,?_⟩
    exact (((Only.refl (fun b=>b=w.heap.size) w).alloc _).trans (setRow_only _ _ _)).old (fun g hg=>Or.inl (by omega))
  rw [← hW] at hcp
  clear hW hA hx'
  go_enter Tryz.func68,Tryz.ntmps68
  go_wp2_with (go_at_call 87;refine (mul_one n _ hn).mono ?_;rintro e w' ⟨rfl,rfl⟩)
  clear hcp hmk
  go_loopg [8] n (fun gh v wr=>∃ (k:Nat) (V:World),V=wr∧gh=n+1 - k∧0 < k∧k≤n∧v=.int .i64 (k:Int)∧V.heap[w.heap.size]?=some (.cells (rowOf n (rpV k)) 3 (0,0))∧Only (fun _=>False) w V)
  case atStart=>exact ⟨1,_,rfl,by omega,by omega,by omega,rfl,HW.out.1,HW.out.2⟩
  case round =>
    obtain ⟨k,V,hV,rfl,hk0,hk,rfl,hb,ho⟩:=hrel
    subst hV
    have HV:Hid (V.heap[w.heap.size]?=some (.cells (rowOf n (rpV k)) 3 (0,0))∧Only (fun _=>False) w V):=⟨hb,ho⟩
    have lV:=(Array.getElem?_eq_some_iff.1 hb).1
    clear hb ho
    by_cases hlt:k < n
    · have t1:(k:Int) < (n:Int):=by omega
      obtain ⟨q,hq⟩:∃ q,q=Nat.min k (n - k):=⟨_,rfl⟩
      have hq1:q≤k:=by rw [hq];exact Nat.min_le_left _ _
      have hq2:q≤n - k:=by rw [hq];exact Nat.min_le_right _ _
      have hq3:0 < q:=by rw [hq];simp [Nat.min_def];split <;> omega
      have hcp:=rp_run V.drew w.heap.size n k q hk hk0 hq HV.out.1
      clear hq
      go_wp2_with fail
      go_region
      all_goals
        go_wp2_with fail
        go_roundg (n+1 - (k+q))
        case measure=>omega
        case rel =>
          refine ⟨k+q,_,rfl,rfl,by omega,by omega,by go_num,?_,?_⟩
          · exact setRow_blk HV.out.1
          · exact (((HV.out.2.mono (S':=fun b=>b=w.heap.size) (fun _ h=>h.elim)).drew).trans (setRow_only _ _ _)).old (fun g hg=>Or.inl (by omega))
    · have t2:decide ((k:Int) < (n:Int))=false:=decide_eq_false (by omega)
      obtain rfl:k=n:=by omega
      go_wp2_with fail
      go_ret
      refine ⟨rfl,?_,HV.out.2⟩
      rw [HV.out.1]
      congr 2
      unfold rowOf
      congr 1
      exact List.map_congr_left (fun i hi=>by unfold rpV;rw [if_pos (List.mem_range.1 hi)])
end Go.Proofs.YtchaoonefiamdaaGreatDoor.L
