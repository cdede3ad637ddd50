/-
  stanzalaw14.FirstLines: its walk.
-/
import Derived.Test.YtjahocnkpomlpaaAw
import Derived.Test.YtjahocnkpomlpaaPc
import Derived.Test.YtjahocnkpomlpaaFe
import Derived.Test.YtjahocnkpomlpaaPq
namespace Go.Proofs.Ytjahocnkpomlpaa.firstLines
open Go.RowKit Go.Maps
set_option linter.unusedVariables false
set_option linter.unusedSimpArgs false
theorem nxt_le4 {C:List Ct} {O:List Nat} {t W a b:Nat} (hO:∀ x∈O,x < 4):(Sp.nxt C O t W a b).2≤4∧∀ k,O.getD k 0 < 4:=by
  have hg:∀ k,O.getD k 0 < 4:=fun k=>by
    rw [List.getD_eq_getElem?_getD]
    cases hx:O[k]? with
    | none=>decide
    | some x=>exact hO x (List.mem_of_getElem? hx)
  refine ⟨?_,hg⟩
  unfold Sp.nxt
  cases Sp.bst C O t W a (b - a) with
  | some k=>exact Nat.le_of_lt (hg k)
  | none =>
    dsimp only
    split
    · exact Nat.le_of_lt (hg _)
    · exact Nat.le_refl _
set_option maxRecDepth 100000 in
set_option maxHeartbeats 8000000 in
theorem walk1 (L:List Bt) (a0:Option Addr) (c0:Nat) (K:Wy) (w:World) (hV:Vw w a0 (btC L)) (hB:∀ b∈L,b.cells < 256∧b.kind < 256∧b.len < 256∧b.opp < 256) (h5:L.length≤300) (hK:K.Ok) :
    Calls Try.prog 4 #[.slice a0 L.length c0,K.val] w fun e w'=>e=.returned (.bool true)∧Only (fun _=>False) w w':=by
  obtain ⟨wi,tb,mo,hy,pr,lo⟩:=K
  obtain ⟨W1,hW1⟩:∃ x,x=1+wi:=⟨_,rfl⟩
  obtain ⟨T1,hT1⟩:∃ x,x=1+tb % 64:=⟨_,rfl⟩
  obtain ⟨M1,hM1⟩:∃ x,x=mo % 2:=⟨_,rfl⟩
  have HCF:Hid (∀ W,Calls Try.prog 10 #[.agg #[.int .u8 (wi:Int),.int .u8 (tb:Int),.int .u8 (mo:Int),.int .u16 (hy:Int),.int .u16 (pr:Int),.float .f64 lo]] W fun e w'=>e=.returned (.agg #[.int .i64 (W1:Int),.int .i64 (T1:Int),.int .u8 (M1:Int),.int .i64 (hy:Int),.int .i64 (pr:Int),.float .f64 lo])∧Only (fun _=>False) W w'):=fun W=>by
    rw [hW1,hT1,hM1]
    exact config_any ⟨wi,tb,mo,hy,pr,lo⟩ W hK
  obtain ⟨b0,b1,b2,b3,b4,b5⟩:=hK
  simp only at b0 b1 b2 b3 b4 b5
  have hw1:W1≤256:=by omega
  have hw0:1≤W1:=by omega
  have ht0:0 < T1:=by omega
  have ht1:T1≤64:=by omega
  have hm1:M1≤1:=by omega
  obtain ⟨n0,hn0⟩:∃ n,n=L.length:=⟨_,rfl⟩
  have HN:Hid (n0=L.length):=hn0
  have HPA:Hid (∀ W,Only (fun _=>False) w W→Calls Try.prog 9 #[.slice a0 n0 c0] W fun e w'=>∃ k aC aO cC cO,e=.returned (.agg #[.slice aC k cC,.slice aO (k+1) cO])∧Made w' L n0 k aC aO cC cO∧Only (fun _=>False) W w'):=fun W ho=>para_made L n0 a0 c0 W hn0 (hV.keep ho) hB (by omega)
  unfold Wy.val
  simp only
  rw [← hn0] at h5 ⊢
  clear hn0 hW1 hT1 hM1 hV hB
  have s0:decide ((300:Int) < (n0:Int))=false:=decide_eq_false (by omega)
  go_enter Try.func4,Try.ntmps4
  go_wp2_with fail
  obtain ⟨R,w0,hw0',hR,H0,lR⟩:=box6 w (.int .u8 (wi:Int)) (.int .u8 (tb:Int)) (.int .u8 (mo:Int)) (.int .u16 (hy:Int)) (.int .u16 (pr:Int)) (.float .f64 lo) 26
  rw [hw0',hR]
  clear hw0' hR
  refine Calls.mono (awake14_any _) ?_
  rintro e w2 ⟨rfl,ho2⟩
  have HW2:Hid (Only (fun _=>False) w w2):=H0.out.2.1.trans ho2
  have HKS:Hid (∀ W',Only (fun _=>False) w2 W'→(W'.cell? ⟨R,0,none⟩=some (.int .u8 (wi:Int))∧W'.cell? ⟨R,1,none⟩=some (.int .u8 (tb:Int))∧W'.cell? ⟨R,2,none⟩=some (.int .u8 (mo:Int))∧W'.cell? ⟨R,3,none⟩=some (.int .u16 (hy:Int))∧W'.cell? ⟨R,4,none⟩=some (.int .u16 (pr:Int))∧W'.cell? ⟨R,5,none⟩=some (.float .f64 lo))):=fun W' ho=>blk_six (blk_keep (ho2.trans ho) H0.out.1)
  clear ho2 lR
  go_wp2_with fail
  go_cut [5,6] from 20 to 23 (fun v5 v6 wr=>∃ (k B5 B6:Nat) (aC aO:Option Addr) (cC cO:Nat) (X:World),X=wr∧v5=.pointer (some ⟨B5,0,none⟩)∧v6=.pointer (some ⟨B6,0,none⟩)∧Made X L n0 k aC aO cC cO∧Blk w2 X B5 31 #[.slice aC k cC,.slice aO (k+1) cO]∧Blk w2 X B6 35 #[.int .i64 (W1:Int),.int .i64 (T1:Int),.int .u8 (M1:Int),.int .i64 (hy:Int),.int .i64 (pr:Int),.float .f64 lo]∧Only (fun _=>False) w2 X)
  case first =>
    have HXD:Hid (Only (fun _=>False) w2 w2.drew):=(Only.refl _ _).drew
    refine wp_region_held_drew (S:=(fun W'=>W'.cell? ⟨R,0,none⟩=some (.int .u8 (wi:Int))∧W'.cell? ⟨R,1,none⟩=some (.int .u8 (tb:Int))∧W'.cell? ⟨R,2,none⟩=some (.int .u8 (mo:Int))∧W'.cell? ⟨R,3,none⟩=some (.int .u16 (hy:Int))∧W'.cell? ⟨R,4,none⟩=some (.int .u16 (pr:Int))∧W'.cell? ⟨R,5,none⟩=some (.float .f64 lo))) (by kernel_rfl) (HKS.out _ HXD.out) (fun hHeld=>?_)
    refine wpAnyH_take (i:=0) (oi:={ dst:=some 20,op:=_,type:=_,pos:=_,after:=_,guard:=_ }) (v:=.slice a0 n0 c0) rfl (by kernel_rfl) (by kernel_rfl) (by kernel_rfl) (fun _ _ _ h=>h) (Or.inl ⟨by rfl,fun w hSw=>by obtain ⟨y0,y1,y2,y3,y4,y5⟩:=hSw;first | (go_simp;done) | go_simp⟩) (by assumption) ?_
    (try simp only [Act.put,List.setIfInBounds_toArray,List.set_cons_zero,List.set_cons_succ])
    refine wpAnyH_take (i:=2) (oi:={ dst:=some 22,op:=_,type:=_,pos:=_,after:=_,guard:=_ }) (v:=.agg #[.int .u8 (wi:Int),.int .u8 (tb:Int),.int .u8 (mo:Int),.int .u16 (hy:Int),.int .u16 (pr:Int),.float .f64 lo]) rfl (by kernel_rfl) (by kernel_rfl) (by kernel_rfl) (fun _ _ _ h=>h) (Or.inl ⟨by rfl,fun w hSw=>by obtain ⟨y0,y1,y2,y3,y4,y5⟩:=hSw;first | (go_simp;done) | go_simp⟩) (by assumption) ?_
    (try simp only [Act.put,List.setIfInBounds_toArray,List.set_cons_zero,List.set_cons_succ])
    refine wpAnyH_ready (rs:=[1,4,5]) (by kernel_rfl) (by simp) ?_
    refine AllReadyH.cons rfl (fun K hK=>?_) (AllReadyH.cons rfl (fun K hK=>?_) (AllReadyH.cons rfl (fun K hK=>?_) AllReadyH.nil))
    · rw [if_pos (by rfl)]
      go_simp
      refine Calls.mono (HPA.out _ (HW2.out.trans HXD.out)) ?_
      rintro e y1 ⟨k,aC,aO,cC,cO,rfl,hmd,ho⟩
      have HMy1:Hid (Made y1 L n0 k aC aO cC cO):=hmd
      clear hmd
      have HXy1:Hid (Only (fun _=>False) w2 y1):=HXD.out.trans ho
      clear ho
      refine hK.out _ _ (HKS.out _ HXy1.out) (fun hHeld=>?_)
      clear hK
      (try simp only [Act.put,List.setIfInBounds_toArray,List.set_cons_zero,List.set_cons_succ])
      refine wpAnyH_ready (rs:=[3,4,5]) (by kernel_rfl) (by simp) ?_
      refine AllReadyH.cons rfl (fun K hK=>?_) (AllReadyH.cons rfl (fun K hK=>?_) (AllReadyH.cons rfl (fun K hK=>?_) AllReadyH.nil))
      · rw [if_pos (by rfl)]
        go_simp
        refine Calls.mono (HCF.out _) ?_
        rintro e y2 ⟨rfl,ho⟩
        have HMy2:Hid (Made y2 L n0 k aC aO cC cO):=HMy1.out.keep ho
        have HXy2:Hid (Only (fun _=>False) w2 y2):=HXy1.out.trans ho
        clear ho
        refine hK.out _ _ (HKS.out _ HXy2.out) (fun hHeld=>?_)
        clear hK
        (try simp only [Act.put,List.setIfInBounds_toArray,List.set_cons_zero,List.set_cons_succ])
        refine wpAnyH_ready (rs:=[4,5]) (by kernel_rfl) (by simp) ?_
        refine AllReadyH.cons rfl (fun K hK=>?_) (AllReadyH.cons rfl (fun K hK=>?_) AllReadyH.nil)
        · rw [if_pos (by rfl)]
          go_simp
          obtain ⟨y3,hy3⟩:∃ Y,Y=y2.alloc (.cells #[.slice none 0 0,.slice none 0 0] 31):=⟨_,rfl⟩
          obtain ⟨B5,hB5⟩:∃ b,b=y2.heap.size:=⟨_,rfl⟩
          have ho:Only (fun _=>False) y2 y3:=by rw [hy3];exact (Only.refl _ _).alloc _
          have HXy3:Hid (Only (fun _=>False) w2 y3):=HXy2.out.trans ho
          have HB5y3:Hid (Blk w2 y3 B5 31 #[.slice none 0 0,.slice none 0 0]):=by rw [hy3,hB5];exact Blk.made HXy2.out _ _
          have HMy3:Hid (Made y3 L n0 k aC aO cC cO):=HMy2.out.keep ho
          rw [← hy3,← hB5]
          clear hy3 hB5 ho
          refine hK.out _ _ (HKS.out _ HXy3.out) (fun hHeld=>?_)
          clear hK
          (try simp only [Act.put,List.setIfInBounds_toArray,List.set_cons_zero,List.set_cons_succ])
          refine wpAnyH_ready (rs:=[5]) (by kernel_rfl) (by simp) ?_
          refine AllReadyH.cons rfl (fun K hK=>?_) AllReadyH.nil
          rw [if_pos (by rfl)]
          go_simp
          obtain ⟨y4,hy4⟩:∃ Y,Y=y3.alloc (.cells #[.int .i64 0,.int .i64 0,.int .u8 0,.int .i64 0,.int .i64 0,.float .f64 0] 35):=⟨_,rfl⟩
          obtain ⟨B6,hB6⟩:∃ b,b=y3.heap.size:=⟨_,rfl⟩
          have ho:Only (fun _=>False) y3 y4:=by rw [hy4];exact (Only.refl _ _).alloc _
          have HXy4:Hid (Only (fun _=>False) w2 y4):=HXy3.out.trans ho
          have HB6y4:Hid (Blk w2 y4 B6 35 #[.int .i64 0,.int .i64 0,.int .u8 0,.int .i64 0,.int .i64 0,.float .f64 0]):=by rw [hy4,hB6];exact Blk.made HXy3.out _ _
          have HB5y4:Hid (Blk w2 y4 B5 31 #[.slice none 0 0,.slice none 0 0]):=HB5y3.out.keep ho
          have HMy4:Hid (Made y4 L n0 k aC aO cC cO):=HMy3.out.keep ho
          rw [← hy4,← hB6]
          clear hy4 hB6 ho
          refine hK.out _ _ (HKS.out _ HXy4.out) (fun hHeld=>?_)
          clear hK
          (try simp only [Act.put,List.setIfInBounds_toArray,List.set_cons_zero,List.set_cons_succ])
          refine wpAnyH_ready (rs:=[6]) (by kernel_rfl) (by simp) ?_
          refine AllReadyH.cons rfl (fun K hK=>?_) AllReadyH.nil
          rw [if_pos (by rfl)]
          have HXa:Hid (Only (fun _=>False) w2 (y4.setRow B5 #[.slice aC k cC,.slice aO (k+1) cO])):=HXy4.out.setRowNew HB5y4.out.2 _
          refine wp_store_row 31 _ _ rfl B5 #[.slice aC k cC,.slice aO (k+1) cO] rfl rfl 31 _ HB5y4.out.1 (by kernel_rfl) rfl (two_one _ _ _ _ _ _) ?_
          have HMa:Hid (Made (y4.setRow B5 #[.slice aC k cC,.slice aO (k+1) cO]) L n0 k aC aO cC cO∧Blk w2 (y4.setRow B5 #[.slice aC k cC,.slice aO (k+1) cO]) B5 31 #[.slice aC k cC,.slice aO (k+1) cO]∧Blk w2 (y4.setRow B5 #[.slice aC k cC,.slice aO (k+1) cO]) B6 35 #[.int .i64 0,.int .i64 0,.int .u8 0,.int .i64 0,.int .i64 0,.float .f64 0]):=⟨HMy4.out.store HB5y4.out.1 (by decide) (by decide) _,HB5y4.out.put _,HB6y4.out.far HB5y4.out (by decide) _⟩
          obtain ⟨za,hza⟩:∃ Y,Y=y4.setRow B5 #[.slice aC k cC,.slice aO (k+1) cO]:=⟨_,rfl⟩
          rw [← hza] at HXa HMa ⊢
          clear hza
          refine hK.out _ _ (HKS.out _ HXa.out) (fun hHeld=>?_)
          clear hK
          (try simp only [Act.put,List.setIfInBounds_toArray,List.set_cons_zero,List.set_cons_succ])
          refine wpAnyH_ready (rs:=[7]) (by kernel_rfl) (by simp) ?_
          refine AllReadyH.cons rfl (fun K hK=>?_) AllReadyH.nil
          rw [if_pos (by rfl)]
          have HXb:Hid (Only (fun _=>False) w2 (za.setRow B6 #[.int .i64 (W1:Int),.int .i64 (T1:Int),.int .u8 (M1:Int),.int .i64 (hy:Int),.int .i64 (pr:Int),.float .f64 lo])):=HXa.out.setRowNew HMa.out.2.2.2 _
          refine wp_store_row 35 _ _ rfl B6 #[.int .i64 (W1:Int),.int .i64 (T1:Int),.int .u8 (M1:Int),.int .i64 (hy:Int),.int .i64 (pr:Int),.float .f64 lo] rfl rfl 35 _ HMa.out.2.2.1 (by kernel_rfl) rfl (cfg_one _ _ _ _ _ _) ?_
          have HMb:Hid (Made (za.setRow B6 #[.int .i64 (W1:Int),.int .i64 (T1:Int),.int .u8 (M1:Int),.int .i64 (hy:Int),.int .i64 (pr:Int),.float .f64 lo]) L n0 k aC aO cC cO∧Blk w2 (za.setRow B6 #[.int .i64 (W1:Int),.int .i64 (T1:Int),.int .u8 (M1:Int),.int .i64 (hy:Int),.int .i64 (pr:Int),.float .f64 lo]) B5 31 #[.slice aC k cC,.slice aO (k+1) cO]∧Blk w2 (za.setRow B6 #[.int .i64 (W1:Int),.int .i64 (T1:Int),.int .u8 (M1:Int),.int .i64 (hy:Int),.int .i64 (pr:Int),.float .f64 lo]) B6 35 #[.int .i64 (W1:Int),.int .i64 (T1:Int),.int .u8 (M1:Int),.int .i64 (hy:Int),.int .i64 (pr:Int),.float .f64 lo]):=⟨HMa.out.1.store HMa.out.2.2.1 (by decide) (by decide) _,HMa.out.2.1.far HMa.out.2.2 (by decide) _,HMa.out.2.2.put _⟩
          obtain ⟨zb,hzb⟩:∃ Y,Y=za.setRow B6 #[.int .i64 (W1:Int),.int .i64 (T1:Int),.int .u8 (M1:Int),.int .i64 (hy:Int),.int .i64 (pr:Int),.float .f64 lo]:=⟨_,rfl⟩
          rw [← hzb] at HXb HMb ⊢
          clear hzb
          refine hK.out _ _ (HKS.out _ HXb.out) (fun hHeld=>?_)
          clear hK
          (try simp only [Act.put,List.setIfInBounds_toArray,List.set_cons_zero,List.set_cons_succ])
          refine wpAnyH_done (by kernel_rfl) ?_ _
          clear hHeld
          go_wp2_with fail
          go_meet
          exact ⟨k,B5,B6,aC,aO,cC,cO,_,rfl,rfl,rfl,HMb.out.1,HMb.out.2.1,HMb.out.2.2,HXb.out⟩
        · rw [if_pos (by rfl)]
          go_simp
          obtain ⟨y3,hy3⟩:∃ Y,Y=y2.alloc (.cells #[.int .i64 0,.int .i64 0,.int .u8 0,.int .i64 0,.int .i64 0,.float .f64 0] 35):=⟨_,rfl⟩
          obtain ⟨B6,hB6⟩:∃ b,b=y2.heap.size:=⟨_,rfl⟩
          have ho:Only (fun _=>False) y2 y3:=by rw [hy3];exact (Only.refl _ _).alloc _
          have HXy3:Hid (Only (fun _=>False) w2 y3):=HXy2.out.trans ho
          have HB6y3:Hid (Blk w2 y3 B6 35 #[.int .i64 0,.int .i64 0,.int .u8 0,.int .i64 0,.int .i64 0,.float .f64 0]):=by rw [hy3,hB6];exact Blk.made HXy2.out _ _
          have HMy3:Hid (Made y3 L n0 k aC aO cC cO):=HMy2.out.keep ho
          rw [← hy3,← hB6]
          clear hy3 hB6 ho
          refine hK.out _ _ (HKS.out _ HXy3.out) (fun hHeld=>?_)
          clear hK
          (try simp only [Act.put,List.setIfInBounds_toArray,List.set_cons_zero,List.set_cons_succ])
          refine wpAnyH_ready (rs:=[4]) (by kernel_rfl) (by simp) ?_
          refine AllReadyH.cons rfl (fun K hK=>?_) AllReadyH.nil
          rw [if_pos (by rfl)]
          go_simp
          obtain ⟨y4,hy4⟩:∃ Y,Y=y3.alloc (.cells #[.slice none 0 0,.slice none 0 0] 31):=⟨_,rfl⟩
          obtain ⟨B5,hB5⟩:∃ b,b=y3.heap.size:=⟨_,rfl⟩
          have ho:Only (fun _=>False) y3 y4:=by rw [hy4];exact (Only.refl _ _).alloc _
          have HXy4:Hid (Only (fun _=>False) w2 y4):=HXy3.out.trans ho
          have HB5y4:Hid (Blk w2 y4 B5 31 #[.slice none 0 0,.slice none 0 0]):=by rw [hy4,hB5];exact Blk.made HXy3.out _ _
          have HB6y4:Hid (Blk w2 y4 B6 35 #[.int .i64 0,.int .i64 0,.int .u8 0,.int .i64 0,.int .i64 0,.float .f64 0]):=HB6y3.out.keep ho
          have HMy4:Hid (Made y4 L n0 k aC aO cC cO):=HMy3.out.keep ho
          rw [← hy4,← hB5]
          clear hy4 hB5 ho
          refine hK.out _ _ (HKS.out _ HXy4.out) (fun hHeld=>?_)
          clear hK
          (try simp only [Act.put,List.setIfInBounds_toArray,List.set_cons_zero,List.set_cons_succ])
          refine wpAnyH_ready (rs:=[6]) (by kernel_rfl) (by simp) ?_
          refine AllReadyH.cons rfl (fun K hK=>?_) AllReadyH.nil
          rw [if_pos (by rfl)]
          have HXa:Hid (Only (fun _=>False) w2 (y4.setRow B5 #[.slice aC k cC,.slice aO (k+1) cO])):=HXy4.out.setRowNew HB5y4.out.2 _
          refine wp_store_row 31 _ _ rfl B5 #[.slice aC k cC,.slice aO (k+1) cO] rfl rfl 31 _ HB5y4.out.1 (by kernel_rfl) rfl (two_one _ _ _ _ _ _) ?_
          have HMa:Hid (Made (y4.setRow B5 #[.slice aC k cC,.slice aO (k+1) cO]) L n0 k aC aO cC cO∧Blk w2 (y4.setRow B5 #[.slice aC k cC,.slice aO (k+1) cO]) B5 31 #[.slice aC k cC,.slice aO (k+1) cO]∧Blk w2 (y4.setRow B5 #[.slice aC k cC,.slice aO (k+1) cO]) B6 35 #[.int .i64 0,.int .i64 0,.int .u8 0,.int .i64 0,.int .i64 0,.float .f64 0]):=⟨HMy4.out.store HB5y4.out.1 (by decide) (by decide) _,HB5y4.out.put _,HB6y4.out.far HB5y4.out (by decide) _⟩
          obtain ⟨za,hza⟩:∃ Y,Y=y4.setRow B5 #[.slice aC k cC,.slice aO (k+1) cO]:=⟨_,rfl⟩
          rw [← hza] at HXa HMa ⊢
          clear hza
          refine hK.out _ _ (HKS.out _ HXa.out) (fun hHeld=>?_)
          clear hK
          (try simp only [Act.put,List.setIfInBounds_toArray,List.set_cons_zero,List.set_cons_succ])
          refine wpAnyH_ready (rs:=[7]) (by kernel_rfl) (by simp) ?_
          refine AllReadyH.cons rfl (fun K hK=>?_) AllReadyH.nil
          rw [if_pos (by rfl)]
          have HXb:Hid (Only (fun _=>False) w2 (za.setRow B6 #[.int .i64 (W1:Int),.int .i64 (T1:Int),.int .u8 (M1:Int),.int .i64 (hy:Int),.int .i64 (pr:Int),.float .f64 lo])):=HXa.out.setRowNew HMa.out.2.2.2 _
          refine wp_store_row 35 _ _ rfl B6 #[.int .i64 (W1:Int),.int .i64 (T1:Int),.int .u8 (M1:Int),.int .i64 (hy:Int),.int .i64 (pr:Int),.float .f64 lo] rfl rfl 35 _ HMa.out.2.2.1 (by kernel_rfl) rfl (cfg_one _ _ _ _ _ _) ?_
          have HMb:Hid (Made (za.setRow B6 #[.int .i64 (W1:Int),.int .i64 (T1:Int),.int .u8 (M1:Int),.int .i64 (hy:Int),.int .i64 (pr:Int),.float .f64 lo]) L n0 k aC aO cC cO∧Blk w2 (za.setRow B6 #[.int .i64 (W1:Int),.int .i64 (T1:Int),.int .u8 (M1:Int),.int .i64 (hy:Int),.int .i64 (pr:Int),.float .f64 lo]) B5 31 #[.slice aC k cC,.slice aO (k+1) cO]∧Blk w2 (za.setRow B6 #[.int .i64 (W1:Int),.int .i64 (T1:Int),.int .u8 (M1:Int),.int .i64 (hy:Int),.int .i64 (pr:Int),.float .f64 lo]) B6 35 #[.int .i64 (W1:Int),.int .i64 (T1:Int),.int .u8 (M1:Int),.int .i64 (hy:Int),.int .i64 (pr:Int),.float .f64 lo]):=⟨HMa.out.1.store HMa.out.2.2.1 (by decide) (by decide) _,HMa.out.2.1.far HMa.out.2.2 (by decide) _,HMa.out.2.2.put _⟩
          obtain ⟨zb,hzb⟩:∃ Y,Y=za.setRow B6 #[.int .i64 (W1:Int),.int .i64 (T1:Int),.int .u8 (M1:Int),.int .i64 (hy:Int),.int .i64 (pr:Int),.float .f64 lo]:=⟨_,rfl⟩
          rw [← hzb] at HXb HMb ⊢
          clear hzb
          refine hK.out _ _ (HKS.out _ HXb.out) (fun hHeld=>?_)
          clear hK
          (try simp only [Act.put,List.setIfInBounds_toArray,List.set_cons_zero,List.set_cons_succ])
          refine wpAnyH_done (by kernel_rfl) ?_ _
          clear hHeld
          go_wp2_with fail
          go_meet
          exact ⟨k,B5,B6,aC,aO,cC,cO,_,rfl,rfl,rfl,HMb.out.1,HMb.out.2.1,HMb.out.2.2,HXb.out⟩
      · rw [if_pos (by rfl)]
        go_simp
        obtain ⟨y2,hy2⟩:∃ Y,Y=y1.alloc (.cells #[.slice none 0 0,.slice none 0 0] 31):=⟨_,rfl⟩
        obtain ⟨B5,hB5⟩:∃ b,b=y1.heap.size:=⟨_,rfl⟩
        have ho:Only (fun _=>False) y1 y2:=by rw [hy2];exact (Only.refl _ _).alloc _
        have HXy2:Hid (Only (fun _=>False) w2 y2):=HXy1.out.trans ho
        have HB5y2:Hid (Blk w2 y2 B5 31 #[.slice none 0 0,.slice none 0 0]):=by rw [hy2,hB5];exact Blk.made HXy1.out _ _
        have HMy2:Hid (Made y2 L n0 k aC aO cC cO):=HMy1.out.keep ho
        rw [← hy2,← hB5]
        clear hy2 hB5 ho
        refine hK.out _ _ (HKS.out _ HXy2.out) (fun hHeld=>?_)
        clear hK
        (try simp only [Act.put,List.setIfInBounds_toArray,List.set_cons_zero,List.set_cons_succ])
        refine wpAnyH_ready (rs:=[3,5]) (by kernel_rfl) (by simp) ?_
        refine AllReadyH.cons rfl (fun K hK=>?_) (AllReadyH.cons rfl (fun K hK=>?_) AllReadyH.nil)
        · rw [if_pos (by rfl)]
          go_simp
          refine Calls.mono (HCF.out _) ?_
          rintro e y3 ⟨rfl,ho⟩
          have HMy3:Hid (Made y3 L n0 k aC aO cC cO):=HMy2.out.keep ho
          have HXy3:Hid (Only (fun _=>False) w2 y3):=HXy2.out.trans ho
          have HB5y3:Hid (Blk w2 y3 B5 31 #[.slice none 0 0,.slice none 0 0]):=HB5y2.out.keep ho
          clear ho
          refine hK.out _ _ (HKS.out _ HXy3.out) (fun hHeld=>?_)
          clear hK
          (try simp only [Act.put,List.setIfInBounds_toArray,List.set_cons_zero,List.set_cons_succ])
          refine wpAnyH_ready (rs:=[5]) (by kernel_rfl) (by simp) ?_
          refine AllReadyH.cons rfl (fun K hK=>?_) AllReadyH.nil
          rw [if_pos (by rfl)]
          go_simp
          obtain ⟨y4,hy4⟩:∃ Y,Y=y3.alloc (.cells #[.int .i64 0,.int .i64 0,.int .u8 0,.int .i64 0,.int .i64 0,.float .f64 0] 35):=⟨_,rfl⟩
          obtain ⟨B6,hB6⟩:∃ b,b=y3.heap.size:=⟨_,rfl⟩
          have ho:Only (fun _=>False) y3 y4:=by rw [hy4];exact (Only.refl _ _).alloc _
          have HXy4:Hid (Only (fun _=>False) w2 y4):=HXy3.out.trans ho
          have HB6y4:Hid (Blk w2 y4 B6 35 #[.int .i64 0,.int .i64 0,.int .u8 0,.int .i64 0,.int .i64 0,.float .f64 0]):=by rw [hy4,hB6];exact Blk.made HXy3.out _ _
          have HB5y4:Hid (Blk w2 y4 B5 31 #[.slice none 0 0,.slice none 0 0]):=HB5y3.out.keep ho
          have HMy4:Hid (Made y4 L n0 k aC aO cC cO):=HMy3.out.keep ho
          rw [← hy4,← hB6]
          clear hy4 hB6 ho
          refine hK.out _ _ (HKS.out _ HXy4.out) (fun hHeld=>?_)
          clear hK
          (try simp only [Act.put,List.setIfInBounds_toArray,List.set_cons_zero,List.set_cons_succ])
          refine wpAnyH_ready (rs:=[6]) (by kernel_rfl) (by simp) ?_
          refine AllReadyH.cons rfl (fun K hK=>?_) AllReadyH.nil
          rw [if_pos (by rfl)]
          have HXa:Hid (Only (fun _=>False) w2 (y4.setRow B5 #[.slice aC k cC,.slice aO (k+1) cO])):=HXy4.out.setRowNew HB5y4.out.2 _
          refine wp_store_row 31 _ _ rfl B5 #[.slice aC k cC,.slice aO (k+1) cO] rfl rfl 31 _ HB5y4.out.1 (by kernel_rfl) rfl (two_one _ _ _ _ _ _) ?_
          have HMa:Hid (Made (y4.setRow B5 #[.slice aC k cC,.slice aO (k+1) cO]) L n0 k aC aO cC cO∧Blk w2 (y4.setRow B5 #[.slice aC k cC,.slice aO (k+1) cO]) B5 31 #[.slice aC k cC,.slice aO (k+1) cO]∧Blk w2 (y4.setRow B5 #[.slice aC k cC,.slice aO (k+1) cO]) B6 35 #[.int .i64 0,.int .i64 0,.int .u8 0,.int .i64 0,.int .i64 0,.float .f64 0]):=⟨HMy4.out.store HB5y4.out.1 (by decide) (by decide) _,HB5y4.out.put _,HB6y4.out.far HB5y4.out (by decide) _⟩
          obtain ⟨za,hza⟩:∃ Y,Y=y4.setRow B5 #[.slice aC k cC,.slice aO (k+1) cO]:=⟨_,rfl⟩
          rw [← hza] at HXa HMa ⊢
          clear hza
          refine hK.out _ _ (HKS.out _ HXa.out) (fun hHeld=>?_)
          clear hK
          (try simp only [Act.put,List.setIfInBounds_toArray,List.set_cons_zero,List.set_cons_succ])
          refine wpAnyH_ready (rs:=[7]) (by kernel_rfl) (by simp) ?_
          refine AllReadyH.cons rfl (fun K hK=>?_) AllReadyH.nil
          rw [if_pos (by rfl)]
          have HXb:Hid (Only (fun _=>False) w2 (za.setRow B6 #[.int .i64 (W1:Int),.int .i64 (T1:Int),.int .u8 (M1:Int),.int .i64 (hy:Int),.int .i64 (pr:Int),.float .f64 lo])):=HXa.out.setRowNew HMa.out.2.2.2 _
          refine wp_store_row 35 _ _ rfl B6 #[.int .i64 (W1:Int),.int .i64 (T1:Int),.int .u8 (M1:Int),.int .i64 (hy:Int),.int .i64 (pr:Int),.float .f64 lo] rfl rfl 35 _ HMa.out.2.2.1 (by kernel_rfl) rfl (cfg_one _ _ _ _ _ _) ?_
          have HMb:Hid (Made (za.setRow B6 #[.int .i64 (W1:Int),.int .i64 (T1:Int),.int .u8 (M1:Int),.int .i64 (hy:Int),.int .i64 (pr:Int),.float .f64 lo]) L n0 k aC aO cC cO∧Blk w2 (za.setRow B6 #[.int .i64 (W1:Int),.int .i64 (T1:Int),.int .u8 (M1:Int),.int .i64 (hy:Int),.int .i64 (pr:Int),.float .f64 lo]) B5 31 #[.slice aC k cC,.slice aO (k+1) cO]∧Blk w2 (za.setRow B6 #[.int .i64 (W1:Int),.int .i64 (T1:Int),.int .u8 (M1:Int),.int .i64 (hy:Int),.int .i64 (pr:Int),.float .f64 lo]) B6 35 #[.int .i64 (W1:Int),.int .i64 (T1:Int),.int .u8 (M1:Int),.int .i64 (hy:Int),.int .i64 (pr:Int),.float .f64 lo]):=⟨HMa.out.1.store HMa.out.2.2.1 (by decide) (by decide) _,HMa.out.2.1.far HMa.out.2.2 (by decide) _,HMa.out.2.2.put _⟩
          obtain ⟨zb,hzb⟩:∃ Y,Y=za.setRow B6 #[.int .i64 (W1:Int),.int .i64 (T1:Int),.int .u8 (M1:Int),.int .i64 (hy:Int),.int .i64 (pr:Int),.float .f64 lo]:=⟨_,rfl⟩
          rw [← hzb] at HXb HMb ⊢
          clear hzb
          refine hK.out _ _ (HKS.out _ HXb.out) (fun hHeld=>?_)
          clear hK
          (try simp only [Act.put,List.setIfInBounds_toArray,List.set_cons_zero,List.set_cons_succ])
          refine wpAnyH_done (by kernel_rfl) ?_ _
          clear hHeld
          go_wp2_with fail
          go_meet
          exact ⟨k,B5,B6,aC,aO,cC,cO,_,rfl,rfl,rfl,HMb.out.1,HMb.out.2.1,HMb.out.2.2,HXb.out⟩
        · rw [if_pos (by rfl)]
          go_simp
          obtain ⟨y3,hy3⟩:∃ Y,Y=y2.alloc (.cells #[.int .i64 0,.int .i64 0,.int .u8 0,.int .i64 0,.int .i64 0,.float .f64 0] 35):=⟨_,rfl⟩
          obtain ⟨B6,hB6⟩:∃ b,b=y2.heap.size:=⟨_,rfl⟩
          have ho:Only (fun _=>False) y2 y3:=by rw [hy3];exact (Only.refl _ _).alloc _
          have HXy3:Hid (Only (fun _=>False) w2 y3):=HXy2.out.trans ho
          have HB6y3:Hid (Blk w2 y3 B6 35 #[.int .i64 0,.int .i64 0,.int .u8 0,.int .i64 0,.int .i64 0,.float .f64 0]):=by rw [hy3,hB6];exact Blk.made HXy2.out _ _
          have HB5y3:Hid (Blk w2 y3 B5 31 #[.slice none 0 0,.slice none 0 0]):=HB5y2.out.keep ho
          have HMy3:Hid (Made y3 L n0 k aC aO cC cO):=HMy2.out.keep ho
          rw [← hy3,← hB6]
          clear hy3 hB6 ho
          refine hK.out _ _ (HKS.out _ HXy3.out) (fun hHeld=>?_)
          clear hK
          (try simp only [Act.put,List.setIfInBounds_toArray,List.set_cons_zero,List.set_cons_succ])
          refine wpAnyH_ready (rs:=[3]) (by kernel_rfl) (by simp) ?_
          refine AllReadyH.cons rfl (fun K hK=>?_) AllReadyH.nil
          rw [if_pos (by rfl)]
          go_simp
          refine Calls.mono (HCF.out _) ?_
          rintro e y4 ⟨rfl,ho⟩
          have HMy4:Hid (Made y4 L n0 k aC aO cC cO):=HMy3.out.keep ho
          have HXy4:Hid (Only (fun _=>False) w2 y4):=HXy3.out.trans ho
          have HB5y4:Hid (Blk w2 y4 B5 31 #[.slice none 0 0,.slice none 0 0]):=HB5y3.out.keep ho
          have HB6y4:Hid (Blk w2 y4 B6 35 #[.int .i64 0,.int .i64 0,.int .u8 0,.int .i64 0,.int .i64 0,.float .f64 0]):=HB6y3.out.keep ho
          clear ho
          refine hK.out _ _ (HKS.out _ HXy4.out) (fun hHeld=>?_)
          clear hK
          (try simp only [Act.put,List.setIfInBounds_toArray,List.set_cons_zero,List.set_cons_succ])
          refine wpAnyH_ready (rs:=[6]) (by kernel_rfl) (by simp) ?_
          refine AllReadyH.cons rfl (fun K hK=>?_) AllReadyH.nil
          rw [if_pos (by rfl)]
          have HXa:Hid (Only (fun _=>False) w2 (y4.setRow B5 #[.slice aC k cC,.slice aO (k+1) cO])):=HXy4.out.setRowNew HB5y4.out.2 _
          refine wp_store_row 31 _ _ rfl B5 #[.slice aC k cC,.slice aO (k+1) cO] rfl rfl 31 _ HB5y4.out.1 (by kernel_rfl) rfl (two_one _ _ _ _ _ _) ?_
          have HMa:Hid (Made (y4.setRow B5 #[.slice aC k cC,.slice aO (k+1) cO]) L n0 k aC aO cC cO∧Blk w2 (y4.setRow B5 #[.slice aC k cC,.slice aO (k+1) cO]) B5 31 #[.slice aC k cC,.slice aO (k+1) cO]∧Blk w2 (y4.setRow B5 #[.slice aC k cC,.slice aO (k+1) cO]) B6 35 #[.int .i64 0,.int .i64 0,.int .u8 0,.int .i64 0,.int .i64 0,.float .f64 0]):=⟨HMy4.out.store HB5y4.out.1 (by decide) (by decide) _,HB5y4.out.put _,HB6y4.out.far HB5y4.out (by decide) _⟩
          obtain ⟨za,hza⟩:∃ Y,Y=y4.setRow B5 #[.slice aC k cC,.slice aO (k+1) cO]:=⟨_,rfl⟩
          rw [← hza] at HXa HMa ⊢
          clear hza
          refine hK.out _ _ (HKS.out _ HXa.out) (fun hHeld=>?_)
          clear hK
          (try simp only [Act.put,List.setIfInBounds_toArray,List.set_cons_zero,List.set_cons_succ])
          refine wpAnyH_ready (rs:=[7]) (by kernel_rfl) (by simp) ?_
          refine AllReadyH.cons rfl (fun K hK=>?_) AllReadyH.nil
          rw [if_pos (by rfl)]
          have HXb:Hid (Only (fun _=>False) w2 (za.setRow B6 #[.int .i64 (W1:Int),.int .i64 (T1:Int),.int .u8 (M1:Int),.int .i64 (hy:Int),.int .i64 (pr:Int),.float .f64 lo])):=HXa.out.setRowNew HMa.out.2.2.2 _
          refine wp_store_row 35 _ _ rfl B6 #[.int .i64 (W1:Int),.int .i64 (T1:Int),.int .u8 (M1:Int),.int .i64 (hy:Int),.int .i64 (pr:Int),.float .f64 lo] rfl rfl 35 _ HMa.out.2.2.1 (by kernel_rfl) rfl (cfg_one _ _ _ _ _ _) ?_
          have HMb:Hid (Made (za.setRow B6 #[.int .i64 (W1:Int),.int .i64 (T1:Int),.int .u8 (M1:Int),.int .i64 (hy:Int),.int .i64 (pr:Int),.float .f64 lo]) L n0 k aC aO cC cO∧Blk w2 (za.setRow B6 #[.int .i64 (W1:Int),.int .i64 (T1:Int),.int .u8 (M1:Int),.int .i64 (hy:Int),.int .i64 (pr:Int),.float .f64 lo]) B5 31 #[.slice aC k cC,.slice aO (k+1) cO]∧Blk w2 (za.setRow B6 #[.int .i64 (W1:Int),.int .i64 (T1:Int),.int .u8 (M1:Int),.int .i64 (hy:Int),.int .i64 (pr:Int),.float .f64 lo]) B6 35 #[.int .i64 (W1:Int),.int .i64 (T1:Int),.int .u8 (M1:Int),.int .i64 (hy:Int),.int .i64 (pr:Int),.float .f64 lo]):=⟨HMa.out.1.store HMa.out.2.2.1 (by decide) (by decide) _,HMa.out.2.1.far HMa.out.2.2 (by decide) _,HMa.out.2.2.put _⟩
          obtain ⟨zb,hzb⟩:∃ Y,Y=za.setRow B6 #[.int .i64 (W1:Int),.int .i64 (T1:Int),.int .u8 (M1:Int),.int .i64 (hy:Int),.int .i64 (pr:Int),.float .f64 lo]:=⟨_,rfl⟩
          rw [← hzb] at HXb HMb ⊢
          clear hzb
          refine hK.out _ _ (HKS.out _ HXb.out) (fun hHeld=>?_)
          clear hK
          (try simp only [Act.put,List.setIfInBounds_toArray,List.set_cons_zero,List.set_cons_succ])
          refine wpAnyH_done (by kernel_rfl) ?_ _
          clear hHeld
          go_wp2_with fail
          go_meet
          exact ⟨k,B5,B6,aC,aO,cC,cO,_,rfl,rfl,rfl,HMb.out.1,HMb.out.2.1,HMb.out.2.2,HXb.out⟩
      · rw [if_pos (by rfl)]
        go_simp
        obtain ⟨y2,hy2⟩:∃ Y,Y=y1.alloc (.cells #[.int .i64 0,.int .i64 0,.int .u8 0,.int .i64 0,.int .i64 0,.float .f64 0] 35):=⟨_,rfl⟩
        obtain ⟨B6,hB6⟩:∃ b,b=y1.heap.size:=⟨_,rfl⟩
        have ho:Only (fun _=>False) y1 y2:=by rw [hy2];exact (Only.refl _ _).alloc _
        have HXy2:Hid (Only (fun _=>False) w2 y2):=HXy1.out.trans ho
        have HB6y2:Hid (Blk w2 y2 B6 35 #[.int .i64 0,.int .i64 0,.int .u8 0,.int .i64 0,.int .i64 0,.float .f64 0]):=by rw [hy2,hB6];exact Blk.made HXy1.out _ _
        have HMy2:Hid (Made y2 L n0 k aC aO cC cO):=HMy1.out.keep ho
        rw [← hy2,← hB6]
        clear hy2 hB6 ho
        refine hK.out _ _ (HKS.out _ HXy2.out) (fun hHeld=>?_)
        clear hK
        (try simp only [Act.put,List.setIfInBounds_toArray,List.set_cons_zero,List.set_cons_succ])
        refine wpAnyH_ready (rs:=[3,4]) (by kernel_rfl) (by simp) ?_
        refine AllReadyH.cons rfl (fun K hK=>?_) (AllReadyH.cons rfl (fun K hK=>?_) AllReadyH.nil)
        · rw [if_pos (by rfl)]
          go_simp
          refine Calls.mono (HCF.out _) ?_
          rintro e y3 ⟨rfl,ho⟩
          have HMy3:Hid (Made y3 L n0 k aC aO cC cO):=HMy2.out.keep ho
          have HXy3:Hid (Only (fun _=>False) w2 y3):=HXy2.out.trans ho
          have HB6y3:Hid (Blk w2 y3 B6 35 #[.int .i64 0,.int .i64 0,.int .u8 0,.int .i64 0,.int .i64 0,.float .f64 0]):=HB6y2.out.keep ho
          clear ho
          refine hK.out _ _ (HKS.out _ HXy3.out) (fun hHeld=>?_)
          clear hK
          (try simp only [Act.put,List.setIfInBounds_toArray,List.set_cons_zero,List.set_cons_succ])
          refine wpAnyH_ready (rs:=[4]) (by kernel_rfl) (by simp) ?_
          refine AllReadyH.cons rfl (fun K hK=>?_) AllReadyH.nil
          rw [if_pos (by rfl)]
          go_simp
          obtain ⟨y4,hy4⟩:∃ Y,Y=y3.alloc (.cells #[.slice none 0 0,.slice none 0 0] 31):=⟨_,rfl⟩
          obtain ⟨B5,hB5⟩:∃ b,b=y3.heap.size:=⟨_,rfl⟩
          have ho:Only (fun _=>False) y3 y4:=by rw [hy4];exact (Only.refl _ _).alloc _
          have HXy4:Hid (Only (fun _=>False) w2 y4):=HXy3.out.trans ho
          have HB5y4:Hid (Blk w2 y4 B5 31 #[.slice none 0 0,.slice none 0 0]):=by rw [hy4,hB5];exact Blk.made HXy3.out _ _
          have HB6y4:Hid (Blk w2 y4 B6 35 #[.int .i64 0,.int .i64 0,.int .u8 0,.int .i64 0,.int .i64 0,.float .f64 0]):=HB6y3.out.keep ho
          have HMy4:Hid (Made y4 L n0 k aC aO cC cO):=HMy3.out.keep ho
          rw [← hy4,← hB5]
          clear hy4 hB5 ho
          refine hK.out _ _ (HKS.out _ HXy4.out) (fun hHeld=>?_)
          clear hK
          (try simp only [Act.put,List.setIfInBounds_toArray,List.set_cons_zero,List.set_cons_succ])
          refine wpAnyH_ready (rs:=[6]) (by kernel_rfl) (by simp) ?_
          refine AllReadyH.cons rfl (fun K hK=>?_) AllReadyH.nil
          rw [if_pos (by rfl)]
          have HXa:Hid (Only (fun _=>False) w2 (y4.setRow B5 #[.slice aC k cC,.slice aO (k+1) cO])):=HXy4.out.setRowNew HB5y4.out.2 _
          refine wp_store_row 31 _ _ rfl B5 #[.slice aC k cC,.slice aO (k+1) cO] rfl rfl 31 _ HB5y4.out.1 (by kernel_rfl) rfl (two_one _ _ _ _ _ _) ?_
          have HMa:Hid (Made (y4.setRow B5 #[.slice aC k cC,.slice aO (k+1) cO]) L n0 k aC aO cC cO∧Blk w2 (y4.setRow B5 #[.slice aC k cC,.slice aO (k+1) cO]) B5 31 #[.slice aC k cC,.slice aO (k+1) cO]∧Blk w2 (y4.setRow B5 #[.slice aC k cC,.slice aO (k+1) cO]) B6 35 #[.int .i64 0,.int .i64 0,.int .u8 0,.int .i64 0,.int .i64 0,.float .f64 0]):=⟨HMy4.out.store HB5y4.out.1 (by decide) (by decide) _,HB5y4.out.put _,HB6y4.out.far HB5y4.out (by decide) _⟩
          obtain ⟨za,hza⟩:∃ Y,Y=y4.setRow B5 #[.slice aC k cC,.slice aO (k+1) cO]:=⟨_,rfl⟩
          rw [← hza] at HXa HMa ⊢
          clear hza
          refine hK.out _ _ (HKS.out _ HXa.out) (fun hHeld=>?_)
          clear hK
          (try simp only [Act.put,List.setIfInBounds_toArray,List.set_cons_zero,List.set_cons_succ])
          refine wpAnyH_ready (rs:=[7]) (by kernel_rfl) (by simp) ?_
          refine AllReadyH.cons rfl (fun K hK=>?_) AllReadyH.nil
          rw [if_pos (by rfl)]
          have HXb:Hid (Only (fun _=>False) w2 (za.setRow B6 #[.int .i64 (W1:Int),.int .i64 (T1:Int),.int .u8 (M1:Int),.int .i64 (hy:Int),.int .i64 (pr:Int),.float .f64 lo])):=HXa.out.setRowNew HMa.out.2.2.2 _
          refine wp_store_row 35 _ _ rfl B6 #[.int .i64 (W1:Int),.int .i64 (T1:Int),.int .u8 (M1:Int),.int .i64 (hy:Int),.int .i64 (pr:Int),.float .f64 lo] rfl rfl 35 _ HMa.out.2.2.1 (by kernel_rfl) rfl (cfg_one _ _ _ _ _ _) ?_
          have HMb:Hid (Made (za.setRow B6 #[.int .i64 (W1:Int),.int .i64 (T1:Int),.int .u8 (M1:Int),.int .i64 (hy:Int),.int .i64 (pr:Int),.float .f64 lo]) L n0 k aC aO cC cO∧Blk w2 (za.setRow B6 #[.int .i64 (W1:Int),.int .i64 (T1:Int),.int .u8 (M1:Int),.int .i64 (hy:Int),.int .i64 (pr:Int),.float .f64 lo]) B5 31 #[.slice aC k cC,.slice aO (k+1) cO]∧Blk w2 (za.setRow B6 #[.int .i64 (W1:Int),.int .i64 (T1:Int),.int .u8 (M1:Int),.int .i64 (hy:Int),.int .i64 (pr:Int),.float .f64 lo]) B6 35 #[.int .i64 (W1:Int),.int .i64 (T1:Int),.int .u8 (M1:Int),.int .i64 (hy:Int),.int .i64 (pr:Int),.float .f64 lo]):=⟨HMa.out.1.store HMa.out.2.2.1 (by decide) (by decide) _,HMa.out.2.1.far HMa.out.2.2 (by decide) _,HMa.out.2.2.put _⟩
          obtain ⟨zb,hzb⟩:∃ Y,Y=za.setRow B6 #[.int .i64 (W1:Int),.int .i64 (T1:Int),.int .u8 (M1:Int),.int .i64 (hy:Int),.int .i64 (pr:Int),.float .f64 lo]:=⟨_,rfl⟩
          rw [← hzb] at HXb HMb ⊢
          clear hzb
          refine hK.out _ _ (HKS.out _ HXb.out) (fun hHeld=>?_)
          clear hK
          (try simp only [Act.put,List.setIfInBounds_toArray,List.set_cons_zero,List.set_cons_succ])
          refine wpAnyH_done (by kernel_rfl) ?_ _
          clear hHeld
          go_wp2_with fail
          go_meet
          exact ⟨k,B5,B6,aC,aO,cC,cO,_,rfl,rfl,rfl,HMb.out.1,HMb.out.2.1,HMb.out.2.2,HXb.out⟩
        · rw [if_pos (by rfl)]
          go_simp
          obtain ⟨y3,hy3⟩:∃ Y,Y=y2.alloc (.cells #[.slice none 0 0,.slice none 0 0] 31):=⟨_,rfl⟩
          obtain ⟨B5,hB5⟩:∃ b,b=y2.heap.size:=⟨_,rfl⟩
          have ho:Only (fun _=>False) y2 y3:=by rw [hy3];exact (Only.refl _ _).alloc _
          have HXy3:Hid (Only (fun _=>False) w2 y3):=HXy2.out.trans ho
          have HB5y3:Hid (Blk w2 y3 B5 31 #[.slice none 0 0,.slice none 0 0]):=by rw [hy3,hB5];exact Blk.made HXy2.out _ _
          have HB6y3:Hid (Blk w2 y3 B6 35 #[.int .i64 0,.int .i64 0,.int .u8 0,.int .i64 0,.int .i64 0,.float .f64 0]):=HB6y2.out.keep ho
          have HMy3:Hid (Made y3 L n0 k aC aO cC cO):=HMy2.out.keep ho
          rw [← hy3,← hB5]
          clear hy3 hB5 ho
          refine hK.out _ _ (HKS.out _ HXy3.out) (fun hHeld=>?_)
          clear hK
          (try simp only [Act.put,List.setIfInBounds_toArray,List.set_cons_zero,List.set_cons_succ])
          refine wpAnyH_ready (rs:=[3]) (by kernel_rfl) (by simp) ?_
          refine AllReadyH.cons rfl (fun K hK=>?_) AllReadyH.nil
          rw [if_pos (by rfl)]
          go_simp
          refine Calls.mono (HCF.out _) ?_
          rintro e y4 ⟨rfl,ho⟩
          have HMy4:Hid (Made y4 L n0 k aC aO cC cO):=HMy3.out.keep ho
          have HXy4:Hid (Only (fun _=>False) w2 y4):=HXy3.out.trans ho
          have HB5y4:Hid (Blk w2 y4 B5 31 #[.slice none 0 0,.slice none 0 0]):=HB5y3.out.keep ho
          have HB6y4:Hid (Blk w2 y4 B6 35 #[.int .i64 0,.int .i64 0,.int .u8 0,.int .i64 0,.int .i64 0,.float .f64 0]):=HB6y3.out.keep ho
          clear ho
          refine hK.out _ _ (HKS.out _ HXy4.out) (fun hHeld=>?_)
          clear hK
          (try simp only [Act.put,List.setIfInBounds_toArray,List.set_cons_zero,List.set_cons_succ])
          refine wpAnyH_ready (rs:=[6]) (by kernel_rfl) (by simp) ?_
          refine AllReadyH.cons rfl (fun K hK=>?_) AllReadyH.nil
          rw [if_pos (by rfl)]
          have HXa:Hid (Only (fun _=>False) w2 (y4.setRow B5 #[.slice aC k cC,.slice aO (k+1) cO])):=HXy4.out.setRowNew HB5y4.out.2 _
          refine wp_store_row 31 _ _ rfl B5 #[.slice aC k cC,.slice aO (k+1) cO] rfl rfl 31 _ HB5y4.out.1 (by kernel_rfl) rfl (two_one _ _ _ _ _ _) ?_
          have HMa:Hid (Made (y4.setRow B5 #[.slice aC k cC,.slice aO (k+1) cO]) L n0 k aC aO cC cO∧Blk w2 (y4.setRow B5 #[.slice aC k cC,.slice aO (k+1) cO]) B5 31 #[.slice aC k cC,.slice aO (k+1) cO]∧Blk w2 (y4.setRow B5 #[.slice aC k cC,.slice aO (k+1) cO]) B6 35 #[.int .i64 0,.int .i64 0,.int .u8 0,.int .i64 0,.int .i64 0,.float .f64 0]):=⟨HMy4.out.store HB5y4.out.1 (by decide) (by decide) _,HB5y4.out.put _,HB6y4.out.far HB5y4.out (by decide) _⟩
          obtain ⟨za,hza⟩:∃ Y,Y=y4.setRow B5 #[.slice aC k cC,.slice aO (k+1) cO]:=⟨_,rfl⟩
          rw [← hza] at HXa HMa ⊢
          clear hza
          refine hK.out _ _ (HKS.out _ HXa.out) (fun hHeld=>?_)
          clear hK
          (try simp only [Act.put,List.setIfInBounds_toArray,List.set_cons_zero,List.set_cons_succ])
          refine wpAnyH_ready (rs:=[7]) (by kernel_rfl) (by simp) ?_
          refine AllReadyH.cons rfl (fun K hK=>?_) AllReadyH.nil
          rw [if_pos (by rfl)]
          have HXb:Hid (Only (fun _=>False) w2 (za.setRow B6 #[.int .i64 (W1:Int),.int .i64 (T1:Int),.int .u8 (M1:Int),.int .i64 (hy:Int),.int .i64 (pr:Int),.float .f64 lo])):=HXa.out.setRowNew HMa.out.2.2.2 _
          refine wp_store_row 35 _ _ rfl B6 #[.int .i64 (W1:Int),.int .i64 (T1:Int),.int .u8 (M1:Int),.int .i64 (hy:Int),.int .i64 (pr:Int),.float .f64 lo] rfl rfl 35 _ HMa.out.2.2.1 (by kernel_rfl) rfl (cfg_one _ _ _ _ _ _) ?_
          have HMb:Hid (Made (za.setRow B6 #[.int .i64 (W1:Int),.int .i64 (T1:Int),.int .u8 (M1:Int),.int .i64 (hy:Int),.int .i64 (pr:Int),.float .f64 lo]) L n0 k aC aO cC cO∧Blk w2 (za.setRow B6 #[.int .i64 (W1:Int),.int .i64 (T1:Int),.int .u8 (M1:Int),.int .i64 (hy:Int),.int .i64 (pr:Int),.float .f64 lo]) B5 31 #[.slice aC k cC,.slice aO (k+1) cO]∧Blk w2 (za.setRow B6 #[.int .i64 (W1:Int),.int .i64 (T1:Int),.int .u8 (M1:Int),.int .i64 (hy:Int),.int .i64 (pr:Int),.float .f64 lo]) B6 35 #[.int .i64 (W1:Int),.int .i64 (T1:Int),.int .u8 (M1:Int),.int .i64 (hy:Int),.int .i64 (pr:Int),.float .f64 lo]):=⟨HMa.out.1.store HMa.out.2.2.1 (by decide) (by decide) _,HMa.out.2.1.far HMa.out.2.2 (by decide) _,HMa.out.2.2.put _⟩
          obtain ⟨zb,hzb⟩:∃ Y,Y=za.setRow B6 #[.int .i64 (W1:Int),.int .i64 (T1:Int),.int .u8 (M1:Int),.int .i64 (hy:Int),.int .i64 (pr:Int),.float .f64 lo]:=⟨_,rfl⟩
          rw [← hzb] at HXb HMb ⊢
          clear hzb
          refine hK.out _ _ (HKS.out _ HXb.out) (fun hHeld=>?_)
          clear hK
          (try simp only [Act.put,List.setIfInBounds_toArray,List.set_cons_zero,List.set_cons_succ])
          refine wpAnyH_done (by kernel_rfl) ?_ _
          clear hHeld
          go_wp2_with fail
          go_meet
          exact ⟨k,B5,B6,aC,aO,cC,cO,_,rfl,rfl,rfl,HMb.out.1,HMb.out.2.1,HMb.out.2.2,HXb.out⟩
    · rw [if_pos (by rfl)]
      go_simp
      obtain ⟨y1,hy1⟩:∃ Y,Y=(w2.alloc (.cells #[.slice none 0 0,.slice none 0 0] 31)).drew:=⟨_,rfl⟩
      obtain ⟨B5,hB5⟩:∃ b,b=w2.heap.size:=⟨_,rfl⟩
      have ho:Only (fun _=>False) w2 y1:=by rw [hy1];exact ((Only.refl _ _).alloc _).drew
      have HXy1:Hid (Only (fun _=>False) w2 y1):=ho
      have HB5y1:Hid (Blk w2 y1 B5 31 #[.slice none 0 0,.slice none 0 0]):=by rw [hy1,hB5];exact (Blk.made (Only.refl _ _) _ _).drew
      rw [← hy1,← hB5]
      clear hy1 hB5 ho
      refine hK.out _ _ (HKS.out _ HXy1.out) (fun hHeld=>?_)
      clear hK
      (try simp only [Act.put,List.setIfInBounds_toArray,List.set_cons_zero,List.set_cons_succ])
      refine wpAnyH_ready (rs:=[1,5]) (by kernel_rfl) (by simp) ?_
      refine AllReadyH.cons rfl (fun K hK=>?_) (AllReadyH.cons rfl (fun K hK=>?_) AllReadyH.nil)
      · rw [if_pos (by rfl)]
        go_simp
        refine Calls.mono (HPA.out _ (HW2.out.trans HXy1.out)) ?_
        rintro e y2 ⟨k,aC,aO,cC,cO,rfl,hmd,ho⟩
        have HMy2:Hid (Made y2 L n0 k aC aO cC cO):=hmd
        clear hmd
        have HXy2:Hid (Only (fun _=>False) w2 y2):=HXy1.out.trans ho
        have HB5y2:Hid (Blk w2 y2 B5 31 #[.slice none 0 0,.slice none 0 0]):=HB5y1.out.keep ho
        clear ho
        refine hK.out _ _ (HKS.out _ HXy2.out) (fun hHeld=>?_)
        clear hK
        (try simp only [Act.put,List.setIfInBounds_toArray,List.set_cons_zero,List.set_cons_succ])
        refine wpAnyH_ready (rs:=[3,5]) (by kernel_rfl) (by simp) ?_
        refine AllReadyH.cons rfl (fun K hK=>?_) (AllReadyH.cons rfl (fun K hK=>?_) AllReadyH.nil)
        · rw [if_pos (by rfl)]
          go_simp
          refine Calls.mono (HCF.out _) ?_
          rintro e y3 ⟨rfl,ho⟩
          have HMy3:Hid (Made y3 L n0 k aC aO cC cO):=HMy2.out.keep ho
          have HXy3:Hid (Only (fun _=>False) w2 y3):=HXy2.out.trans ho
          have HB5y3:Hid (Blk w2 y3 B5 31 #[.slice none 0 0,.slice none 0 0]):=HB5y2.out.keep ho
          clear ho
          refine hK.out _ _ (HKS.out _ HXy3.out) (fun hHeld=>?_)
          clear hK
          (try simp only [Act.put,List.setIfInBounds_toArray,List.set_cons_zero,List.set_cons_succ])
          refine wpAnyH_ready (rs:=[5]) (by kernel_rfl) (by simp) ?_
          refine AllReadyH.cons rfl (fun K hK=>?_) AllReadyH.nil
          rw [if_pos (by rfl)]
          go_simp
          obtain ⟨y4,hy4⟩:∃ Y,Y=y3.alloc (.cells #[.int .i64 0,.int .i64 0,.int .u8 0,.int .i64 0,.int .i64 0,.float .f64 0] 35):=⟨_,rfl⟩
          obtain ⟨B6,hB6⟩:∃ b,b=y3.heap.size:=⟨_,rfl⟩
          have ho:Only (fun _=>False) y3 y4:=by rw [hy4];exact (Only.refl _ _).alloc _
          have HXy4:Hid (Only (fun _=>False) w2 y4):=HXy3.out.trans ho
          have HB6y4:Hid (Blk w2 y4 B6 35 #[.int .i64 0,.int .i64 0,.int .u8 0,.int .i64 0,.int .i64 0,.float .f64 0]):=by rw [hy4,hB6];exact Blk.made HXy3.out _ _
          have HB5y4:Hid (Blk w2 y4 B5 31 #[.slice none 0 0,.slice none 0 0]):=HB5y3.out.keep ho
          have HMy4:Hid (Made y4 L n0 k aC aO cC cO):=HMy3.out.keep ho
          rw [← hy4,← hB6]
          clear hy4 hB6 ho
          refine hK.out _ _ (HKS.out _ HXy4.out) (fun hHeld=>?_)
          clear hK
          (try simp only [Act.put,List.setIfInBounds_toArray,List.set_cons_zero,List.set_cons_succ])
          refine wpAnyH_ready (rs:=[6]) (by kernel_rfl) (by simp) ?_
          refine AllReadyH.cons rfl (fun K hK=>?_) AllReadyH.nil
          rw [if_pos (by rfl)]
          have HXa:Hid (Only (fun _=>False) w2 (y4.setRow B5 #[.slice aC k cC,.slice aO (k+1) cO])):=HXy4.out.setRowNew HB5y4.out.2 _
          refine wp_store_row 31 _ _ rfl B5 #[.slice aC k cC,.slice aO (k+1) cO] rfl rfl 31 _ HB5y4.out.1 (by kernel_rfl) rfl (two_one _ _ _ _ _ _) ?_
          have HMa:Hid (Made (y4.setRow B5 #[.slice aC k cC,.slice aO (k+1) cO]) L n0 k aC aO cC cO∧Blk w2 (y4.setRow B5 #[.slice aC k cC,.slice aO (k+1) cO]) B5 31 #[.slice aC k cC,.slice aO (k+1) cO]∧Blk w2 (y4.setRow B5 #[.slice aC k cC,.slice aO (k+1) cO]) B6 35 #[.int .i64 0,.int .i64 0,.int .u8 0,.int .i64 0,.int .i64 0,.float .f64 0]):=⟨HMy4.out.store HB5y4.out.1 (by decide) (by decide) _,HB5y4.out.put _,HB6y4.out.far HB5y4.out (by decide) _⟩
          obtain ⟨za,hza⟩:∃ Y,Y=y4.setRow B5 #[.slice aC k cC,.slice aO (k+1) cO]:=⟨_,rfl⟩
          rw [← hza] at HXa HMa ⊢
          clear hza
          refine hK.out _ _ (HKS.out _ HXa.out) (fun hHeld=>?_)
          clear hK
          (try simp only [Act.put,List.setIfInBounds_toArray,List.set_cons_zero,List.set_cons_succ])
          refine wpAnyH_ready (rs:=[7]) (by kernel_rfl) (by simp) ?_
          refine AllReadyH.cons rfl (fun K hK=>?_) AllReadyH.nil
          rw [if_pos (by rfl)]
          have HXb:Hid (Only (fun _=>False) w2 (za.setRow B6 #[.int .i64 (W1:Int),.int .i64 (T1:Int),.int .u8 (M1:Int),.int .i64 (hy:Int),.int .i64 (pr:Int),.float .f64 lo])):=HXa.out.setRowNew HMa.out.2.2.2 _
          refine wp_store_row 35 _ _ rfl B6 #[.int .i64 (W1:Int),.int .i64 (T1:Int),.int .u8 (M1:Int),.int .i64 (hy:Int),.int .i64 (pr:Int),.float .f64 lo] rfl rfl 35 _ HMa.out.2.2.1 (by kernel_rfl) rfl (cfg_one _ _ _ _ _ _) ?_
          have HMb:Hid (Made (za.setRow B6 #[.int .i64 (W1:Int),.int .i64 (T1:Int),.int .u8 (M1:Int),.int .i64 (hy:Int),.int .i64 (pr:Int),.float .f64 lo]) L n0 k aC aO cC cO∧Blk w2 (za.setRow B6 #[.int .i64 (W1:Int),.int .i64 (T1:Int),.int .u8 (M1:Int),.int .i64 (hy:Int),.int .i64 (pr:Int),.float .f64 lo]) B5 31 #[.slice aC k cC,.slice aO (k+1) cO]∧Blk w2 (za.setRow B6 #[.int .i64 (W1:Int),.int .i64 (T1:Int),.int .u8 (M1:Int),.int .i64 (hy:Int),.int .i64 (pr:Int),.float .f64 lo]) B6 35 #[.int .i64 (W1:Int),.int .i64 (T1:Int),.int .u8 (M1:Int),.int .i64 (hy:Int),.int .i64 (pr:Int),.float .f64 lo]):=⟨HMa.out.1.store HMa.out.2.2.1 (by decide) (by decide) _,HMa.out.2.1.far HMa.out.2.2 (by decide) _,HMa.out.2.2.put _⟩
          obtain ⟨zb,hzb⟩:∃ Y,Y=za.setRow B6 #[.int .i64 (W1:Int),.int .i64 (T1:Int),.int .u8 (M1:Int),.int .i64 (hy:Int),.int .i64 (pr:Int),.float .f64 lo]:=⟨_,rfl⟩
          rw [← hzb] at HXb HMb ⊢
          clear hzb
          refine hK.out _ _ (HKS.out _ HXb.out) (fun hHeld=>?_)
          clear hK
          (try simp only [Act.put,List.setIfInBounds_toArray,List.set_cons_zero,List.set_cons_succ])
          refine wpAnyH_done (by kernel_rfl) ?_ _
          clear hHeld
          go_wp2_with fail
          go_meet
          exact ⟨k,B5,B6,aC,aO,cC,cO,_,rfl,rfl,rfl,HMb.out.1,HMb.out.2.1,HMb.out.2.2,HXb.out⟩
        · rw [if_pos (by rfl)]
          go_simp
          obtain ⟨y3,hy3⟩:∃ Y,Y=y2.alloc (.cells #[.int .i64 0,.int .i64 0,.int .u8 0,.int .i64 0,.int .i64 0,.float .f64 0] 35):=⟨_,rfl⟩
          obtain ⟨B6,hB6⟩:∃ b,b=y2.heap.size:=⟨_,rfl⟩
          have ho:Only (fun _=>False) y2 y3:=by rw [hy3];exact (Only.refl _ _).alloc _
          have HXy3:Hid (Only (fun _=>False) w2 y3):=HXy2.out.trans ho
          have HB6y3:Hid (Blk w2 y3 B6 35 #[.int .i64 0,.int .i64 0,.int .u8 0,.int .i64 0,.int .i64 0,.float .f64 0]):=by rw [hy3,hB6];exact Blk.made HXy2.out _ _
          have HB5y3:Hid (Blk w2 y3 B5 31 #[.slice none 0 0,.slice none 0 0]):=HB5y2.out.keep ho
          have HMy3:Hid (Made y3 L n0 k aC aO cC cO):=HMy2.out.keep ho
          rw [← hy3,← hB6]
          clear hy3 hB6 ho
          refine hK.out _ _ (HKS.out _ HXy3.out) (fun hHeld=>?_)
          clear hK
          (try simp only [Act.put,List.setIfInBounds_toArray,List.set_cons_zero,List.set_cons_succ])
          refine wpAnyH_ready (rs:=[3]) (by kernel_rfl) (by simp) ?_
          refine AllReadyH.cons rfl (fun K hK=>?_) AllReadyH.nil
          rw [if_pos (by rfl)]
          go_simp
          refine Calls.mono (HCF.out _) ?_
          rintro e y4 ⟨rfl,ho⟩
          have HMy4:Hid (Made y4 L n0 k aC aO cC cO):=HMy3.out.keep ho
          have HXy4:Hid (Only (fun _=>False) w2 y4):=HXy3.out.trans ho
          have HB5y4:Hid (Blk w2 y4 B5 31 #[.slice none 0 0,.slice none 0 0]):=HB5y3.out.keep ho
          have HB6y4:Hid (Blk w2 y4 B6 35 #[.int .i64 0,.int .i64 0,.int .u8 0,.int .i64 0,.int .i64 0,.float .f64 0]):=HB6y3.out.keep ho
          clear ho
          refine hK.out _ _ (HKS.out _ HXy4.out) (fun hHeld=>?_)
          clear hK
          (try simp only [Act.put,List.setIfInBounds_toArray,List.set_cons_zero,List.set_cons_succ])
          refine wpAnyH_ready (rs:=[6]) (by kernel_rfl) (by simp) ?_
          refine AllReadyH.cons rfl (fun K hK=>?_) AllReadyH.nil
          rw [if_pos (by rfl)]
          have HXa:Hid (Only (fun _=>False) w2 (y4.setRow B5 #[.slice aC k cC,.slice aO (k+1) cO])):=HXy4.out.setRowNew HB5y4.out.2 _
          refine wp_store_row 31 _ _ rfl B5 #[.slice aC k cC,.slice aO (k+1) cO] rfl rfl 31 _ HB5y4.out.1 (by kernel_rfl) rfl (two_one _ _ _ _ _ _) ?_
          have HMa:Hid (Made (y4.setRow B5 #[.slice aC k cC,.slice aO (k+1) cO]) L n0 k aC aO cC cO∧Blk w2 (y4.setRow B5 #[.slice aC k cC,.slice aO (k+1) cO]) B5 31 #[.slice aC k cC,.slice aO (k+1) cO]∧Blk w2 (y4.setRow B5 #[.slice aC k cC,.slice aO (k+1) cO]) B6 35 #[.int .i64 0,.int .i64 0,.int .u8 0,.int .i64 0,.int .i64 0,.float .f64 0]):=⟨HMy4.out.store HB5y4.out.1 (by decide) (by decide) _,HB5y4.out.put _,HB6y4.out.far HB5y4.out (by decide) _⟩
          obtain ⟨za,hza⟩:∃ Y,Y=y4.setRow B5 #[.slice aC k cC,.slice aO (k+1) cO]:=⟨_,rfl⟩
          rw [← hza] at HXa HMa ⊢
          clear hza
          refine hK.out _ _ (HKS.out _ HXa.out) (fun hHeld=>?_)
          clear hK
          (try simp only [Act.put,List.setIfInBounds_toArray,List.set_cons_zero,List.set_cons_succ])
          refine wpAnyH_ready (rs:=[7]) (by kernel_rfl) (by simp) ?_
          refine AllReadyH.cons rfl (fun K hK=>?_) AllReadyH.nil
          rw [if_pos (by rfl)]
          have HXb:Hid (Only (fun _=>False) w2 (za.setRow B6 #[.int .i64 (W1:Int),.int .i64 (T1:Int),.int .u8 (M1:Int),.int .i64 (hy:Int),.int .i64 (pr:Int),.float .f64 lo])):=HXa.out.setRowNew HMa.out.2.2.2 _
          refine wp_store_row 35 _ _ rfl B6 #[.int .i64 (W1:Int),.int .i64 (T1:Int),.int .u8 (M1:Int),.int .i64 (hy:Int),.int .i64 (pr:Int),.float .f64 lo] rfl rfl 35 _ HMa.out.2.2.1 (by kernel_rfl) rfl (cfg_one _ _ _ _ _ _) ?_
          have HMb:Hid (Made (za.setRow B6 #[.int .i64 (W1:Int),.int .i64 (T1:Int),.int .u8 (M1:Int),.int .i64 (hy:Int),.int .i64 (pr:Int),.float .f64 lo]) L n0 k aC aO cC cO∧Blk w2 (za.setRow B6 #[.int .i64 (W1:Int),.int .i64 (T1:Int),.int .u8 (M1:Int),.int .i64 (hy:Int),.int .i64 (pr:Int),.float .f64 lo]) B5 31 #[.slice aC k cC,.slice aO (k+1) cO]∧Blk w2 (za.setRow B6 #[.int .i64 (W1:Int),.int .i64 (T1:Int),.int .u8 (M1:Int),.int .i64 (hy:Int),.int .i64 (pr:Int),.float .f64 lo]) B6 35 #[.int .i64 (W1:Int),.int .i64 (T1:Int),.int .u8 (M1:Int),.int .i64 (hy:Int),.int .i64 (pr:Int),.float .f64 lo]):=⟨HMa.out.1.store HMa.out.2.2.1 (by decide) (by decide) _,HMa.out.2.1.far HMa.out.2.2 (by decide) _,HMa.out.2.2.put _⟩
          obtain ⟨zb,hzb⟩:∃ Y,Y=za.setRow B6 #[.int .i64 (W1:Int),.int .i64 (T1:Int),.int .u8 (M1:Int),.int .i64 (hy:Int),.int .i64 (pr:Int),.float .f64 lo]:=⟨_,rfl⟩
          rw [← hzb] at HXb HMb ⊢
          clear hzb
          refine hK.out _ _ (HKS.out _ HXb.out) (fun hHeld=>?_)
          clear hK
          (try simp only [Act.put,List.setIfInBounds_toArray,List.set_cons_zero,List.set_cons_succ])
          refine wpAnyH_done (by kernel_rfl) ?_ _
          clear hHeld
          go_wp2_with fail
          go_meet
          exact ⟨k,B5,B6,aC,aO,cC,cO,_,rfl,rfl,rfl,HMb.out.1,HMb.out.2.1,HMb.out.2.2,HXb.out⟩
      · rw [if_pos (by rfl)]
        go_simp
        obtain ⟨y2,hy2⟩:∃ Y,Y=y1.alloc (.cells #[.int .i64 0,.int .i64 0,.int .u8 0,.int .i64 0,.int .i64 0,.float .f64 0] 35):=⟨_,rfl⟩
        obtain ⟨B6,hB6⟩:∃ b,b=y1.heap.size:=⟨_,rfl⟩
        have ho:Only (fun _=>False) y1 y2:=by rw [hy2];exact (Only.refl _ _).alloc _
        have HXy2:Hid (Only (fun _=>False) w2 y2):=HXy1.out.trans ho
        have HB6y2:Hid (Blk w2 y2 B6 35 #[.int .i64 0,.int .i64 0,.int .u8 0,.int .i64 0,.int .i64 0,.float .f64 0]):=by rw [hy2,hB6];exact Blk.made HXy1.out _ _
        have HB5y2:Hid (Blk w2 y2 B5 31 #[.slice none 0 0,.slice none 0 0]):=HB5y1.out.keep ho
        rw [← hy2,← hB6]
        clear hy2 hB6 ho
        refine hK.out _ _ (HKS.out _ HXy2.out) (fun hHeld=>?_)
        clear hK
        (try simp only [Act.put,List.setIfInBounds_toArray,List.set_cons_zero,List.set_cons_succ])
        refine wpAnyH_ready (rs:=[1]) (by kernel_rfl) (by simp) ?_
        refine AllReadyH.cons rfl (fun K hK=>?_) AllReadyH.nil
        rw [if_pos (by rfl)]
        go_simp
        refine Calls.mono (HPA.out _ (HW2.out.trans HXy2.out)) ?_
        rintro e y3 ⟨k,aC,aO,cC,cO,rfl,hmd,ho⟩
        have HMy3:Hid (Made y3 L n0 k aC aO cC cO):=hmd
        clear hmd
        have HXy3:Hid (Only (fun _=>False) w2 y3):=HXy2.out.trans ho
        have HB5y3:Hid (Blk w2 y3 B5 31 #[.slice none 0 0,.slice none 0 0]):=HB5y2.out.keep ho
        have HB6y3:Hid (Blk w2 y3 B6 35 #[.int .i64 0,.int .i64 0,.int .u8 0,.int .i64 0,.int .i64 0,.float .f64 0]):=HB6y2.out.keep ho
        clear ho
        refine hK.out _ _ (HKS.out _ HXy3.out) (fun hHeld=>?_)
        clear hK
        (try simp only [Act.put,List.setIfInBounds_toArray,List.set_cons_zero,List.set_cons_succ])
        refine wpAnyH_ready (rs:=[3]) (by kernel_rfl) (by simp) ?_
        refine AllReadyH.cons rfl (fun K hK=>?_) AllReadyH.nil
        rw [if_pos (by rfl)]
        go_simp
        refine Calls.mono (HCF.out _) ?_
        rintro e y4 ⟨rfl,ho⟩
        have HMy4:Hid (Made y4 L n0 k aC aO cC cO):=HMy3.out.keep ho
        have HXy4:Hid (Only (fun _=>False) w2 y4):=HXy3.out.trans ho
        have HB5y4:Hid (Blk w2 y4 B5 31 #[.slice none 0 0,.slice none 0 0]):=HB5y3.out.keep ho
        have HB6y4:Hid (Blk w2 y4 B6 35 #[.int .i64 0,.int .i64 0,.int .u8 0,.int .i64 0,.int .i64 0,.float .f64 0]):=HB6y3.out.keep ho
        clear ho
        refine hK.out _ _ (HKS.out _ HXy4.out) (fun hHeld=>?_)
        clear hK
        (try simp only [Act.put,List.setIfInBounds_toArray,List.set_cons_zero,List.set_cons_succ])
        refine wpAnyH_ready (rs:=[6]) (by kernel_rfl) (by simp) ?_
        refine AllReadyH.cons rfl (fun K hK=>?_) AllReadyH.nil
        rw [if_pos (by rfl)]
        have HXa:Hid (Only (fun _=>False) w2 (y4.setRow B5 #[.slice aC k cC,.slice aO (k+1) cO])):=HXy4.out.setRowNew HB5y4.out.2 _
        refine wp_store_row 31 _ _ rfl B5 #[.slice aC k cC,.slice aO (k+1) cO] rfl rfl 31 _ HB5y4.out.1 (by kernel_rfl) rfl (two_one _ _ _ _ _ _) ?_
        have HMa:Hid (Made (y4.setRow B5 #[.slice aC k cC,.slice aO (k+1) cO]) L n0 k aC aO cC cO∧Blk w2 (y4.setRow B5 #[.slice aC k cC,.slice aO (k+1) cO]) B5 31 #[.slice aC k cC,.slice aO (k+1) cO]∧Blk w2 (y4.setRow B5 #[.slice aC k cC,.slice aO (k+1) cO]) B6 35 #[.int .i64 0,.int .i64 0,.int .u8 0,.int .i64 0,.int .i64 0,.float .f64 0]):=⟨HMy4.out.store HB5y4.out.1 (by decide) (by decide) _,HB5y4.out.put _,HB6y4.out.far HB5y4.out (by decide) _⟩
        obtain ⟨za,hza⟩:∃ Y,Y=y4.setRow B5 #[.slice aC k cC,.slice aO (k+1) cO]:=⟨_,rfl⟩
        rw [← hza] at HXa HMa ⊢
        clear hza
        refine hK.out _ _ (HKS.out _ HXa.out) (fun hHeld=>?_)
        clear hK
        (try simp only [Act.put,List.setIfInBounds_toArray,List.set_cons_zero,List.set_cons_succ])
        refine wpAnyH_ready (rs:=[7]) (by kernel_rfl) (by simp) ?_
        refine AllReadyH.cons rfl (fun K hK=>?_) AllReadyH.nil
        rw [if_pos (by rfl)]
        have HXb:Hid (Only (fun _=>False) w2 (za.setRow B6 #[.int .i64 (W1:Int),.int .i64 (T1:Int),.int .u8 (M1:Int),.int .i64 (hy:Int),.int .i64 (pr:Int),.float .f64 lo])):=HXa.out.setRowNew HMa.out.2.2.2 _
        refine wp_store_row 35 _ _ rfl B6 #[.int .i64 (W1:Int),.int .i64 (T1:Int),.int .u8 (M1:Int),.int .i64 (hy:Int),.int .i64 (pr:Int),.float .f64 lo] rfl rfl 35 _ HMa.out.2.2.1 (by kernel_rfl) rfl (cfg_one _ _ _ _ _ _) ?_
        have HMb:Hid (Made (za.setRow B6 #[.int .i64 (W1:Int),.int .i64 (T1:Int),.int .u8 (M1:Int),.int .i64 (hy:Int),.int .i64 (pr:Int),.float .f64 lo]) L n0 k aC aO cC cO∧Blk w2 (za.setRow B6 #[.int .i64 (W1:Int),.int .i64 (T1:Int),.int .u8 (M1:Int),.int .i64 (hy:Int),.int .i64 (pr:Int),.float .f64 lo]) B5 31 #[.slice aC k cC,.slice aO (k+1) cO]∧Blk w2 (za.setRow B6 #[.int .i64 (W1:Int),.int .i64 (T1:Int),.int .u8 (M1:Int),.int .i64 (hy:Int),.int .i64 (pr:Int),.float .f64 lo]) B6 35 #[.int .i64 (W1:Int),.int .i64 (T1:Int),.int .u8 (M1:Int),.int .i64 (hy:Int),.int .i64 (pr:Int),.float .f64 lo]):=⟨HMa.out.1.store HMa.out.2.2.1 (by decide) (by decide) _,HMa.out.2.1.far HMa.out.2.2 (by decide) _,HMa.out.2.2.put _⟩
        obtain ⟨zb,hzb⟩:∃ Y,Y=za.setRow B6 #[.int .i64 (W1:Int),.int .i64 (T1:Int),.int .u8 (M1:Int),.int .i64 (hy:Int),.int .i64 (pr:Int),.float .f64 lo]:=⟨_,rfl⟩
        rw [← hzb] at HXb HMb ⊢
        clear hzb
        refine hK.out _ _ (HKS.out _ HXb.out) (fun hHeld=>?_)
        clear hK
        (try simp only [Act.put,List.setIfInBounds_toArray,List.set_cons_zero,List.set_cons_succ])
        refine wpAnyH_done (by kernel_rfl) ?_ _
        clear hHeld
        go_wp2_with fail
        go_meet
        exact ⟨k,B5,B6,aC,aO,cC,cO,_,rfl,rfl,rfl,HMb.out.1,HMb.out.2.1,HMb.out.2.2,HXb.out⟩
    · rw [if_pos (by rfl)]
      go_simp
      obtain ⟨y1,hy1⟩:∃ Y,Y=(w2.alloc (.cells #[.int .i64 0,.int .i64 0,.int .u8 0,.int .i64 0,.int .i64 0,.float .f64 0] 35)).drew:=⟨_,rfl⟩
      obtain ⟨B6,hB6⟩:∃ b,b=w2.heap.size:=⟨_,rfl⟩
      have ho:Only (fun _=>False) w2 y1:=by rw [hy1];exact ((Only.refl _ _).alloc _).drew
      have HXy1:Hid (Only (fun _=>False) w2 y1):=ho
      have HB6y1:Hid (Blk w2 y1 B6 35 #[.int .i64 0,.int .i64 0,.int .u8 0,.int .i64 0,.int .i64 0,.float .f64 0]):=by rw [hy1,hB6];exact (Blk.made (Only.refl _ _) _ _).drew
      rw [← hy1,← hB6]
      clear hy1 hB6 ho
      refine hK.out _ _ (HKS.out _ HXy1.out) (fun hHeld=>?_)
      clear hK
      (try simp only [Act.put,List.setIfInBounds_toArray,List.set_cons_zero,List.set_cons_succ])
      refine wpAnyH_ready (rs:=[1,4]) (by kernel_rfl) (by simp) ?_
      refine AllReadyH.cons rfl (fun K hK=>?_) (AllReadyH.cons rfl (fun K hK=>?_) AllReadyH.nil)
      · rw [if_pos (by rfl)]
        go_simp
        refine Calls.mono (HPA.out _ (HW2.out.trans HXy1.out)) ?_
        rintro e y2 ⟨k,aC,aO,cC,cO,rfl,hmd,ho⟩
        have HMy2:Hid (Made y2 L n0 k aC aO cC cO):=hmd
        clear hmd
        have HXy2:Hid (Only (fun _=>False) w2 y2):=HXy1.out.trans ho
        have HB6y2:Hid (Blk w2 y2 B6 35 #[.int .i64 0,.int .i64 0,.int .u8 0,.int .i64 0,.int .i64 0,.float .f64 0]):=HB6y1.out.keep ho
        clear ho
        refine hK.out _ _ (HKS.out _ HXy2.out) (fun hHeld=>?_)
        clear hK
        (try simp only [Act.put,List.setIfInBounds_toArray,List.set_cons_zero,List.set_cons_succ])
        refine wpAnyH_ready (rs:=[3,4]) (by kernel_rfl) (by simp) ?_
        refine AllReadyH.cons rfl (fun K hK=>?_) (AllReadyH.cons rfl (fun K hK=>?_) AllReadyH.nil)
        · rw [if_pos (by rfl)]
          go_simp
          refine Calls.mono (HCF.out _) ?_
          rintro e y3 ⟨rfl,ho⟩
          have HMy3:Hid (Made y3 L n0 k aC aO cC cO):=HMy2.out.keep ho
          have HXy3:Hid (Only (fun _=>False) w2 y3):=HXy2.out.trans ho
          have HB6y3:Hid (Blk w2 y3 B6 35 #[.int .i64 0,.int .i64 0,.int .u8 0,.int .i64 0,.int .i64 0,.float .f64 0]):=HB6y2.out.keep ho
          clear ho
          refine hK.out _ _ (HKS.out _ HXy3.out) (fun hHeld=>?_)
          clear hK
          (try simp only [Act.put,List.setIfInBounds_toArray,List.set_cons_zero,List.set_cons_succ])
          refine wpAnyH_ready (rs:=[4]) (by kernel_rfl) (by simp) ?_
          refine AllReadyH.cons rfl (fun K hK=>?_) AllReadyH.nil
          rw [if_pos (by rfl)]
          go_simp
          obtain ⟨y4,hy4⟩:∃ Y,Y=y3.alloc (.cells #[.slice none 0 0,.slice none 0 0] 31):=⟨_,rfl⟩
          obtain ⟨B5,hB5⟩:∃ b,b=y3.heap.size:=⟨_,rfl⟩
          have ho:Only (fun _=>False) y3 y4:=by rw [hy4];exact (Only.refl _ _).alloc _
          have HXy4:Hid (Only (fun _=>False) w2 y4):=HXy3.out.trans ho
          have HB5y4:Hid (Blk w2 y4 B5 31 #[.slice none 0 0,.slice none 0 0]):=by rw [hy4,hB5];exact Blk.made HXy3.out _ _
          have HB6y4:Hid (Blk w2 y4 B6 35 #[.int .i64 0,.int .i64 0,.int .u8 0,.int .i64 0,.int .i64 0,.float .f64 0]):=HB6y3.out.keep ho
          have HMy4:Hid (Made y4 L n0 k aC aO cC cO):=HMy3.out.keep ho
          rw [← hy4,← hB5]
          clear hy4 hB5 ho
          refine hK.out _ _ (HKS.out _ HXy4.out) (fun hHeld=>?_)
          clear hK
          (try simp only [Act.put,List.setIfInBounds_toArray,List.set_cons_zero,List.set_cons_succ])
          refine wpAnyH_ready (rs:=[6]) (by kernel_rfl) (by simp) ?_
          refine AllReadyH.cons rfl (fun K hK=>?_) AllReadyH.nil
          rw [if_pos (by rfl)]
          have HXa:Hid (Only (fun _=>False) w2 (y4.setRow B5 #[.slice aC k cC,.slice aO (k+1) cO])):=HXy4.out.setRowNew HB5y4.out.2 _
          refine wp_store_row 31 _ _ rfl B5 #[.slice aC k cC,.slice aO (k+1) cO] rfl rfl 31 _ HB5y4.out.1 (by kernel_rfl) rfl (two_one _ _ _ _ _ _) ?_
          have HMa:Hid (Made (y4.setRow B5 #[.slice aC k cC,.slice aO (k+1) cO]) L n0 k aC aO cC cO∧Blk w2 (y4.setRow B5 #[.slice aC k cC,.slice aO (k+1) cO]) B5 31 #[.slice aC k cC,.slice aO (k+1) cO]∧Blk w2 (y4.setRow B5 #[.slice aC k cC,.slice aO (k+1) cO]) B6 35 #[.int .i64 0,.int .i64 0,.int .u8 0,.int .i64 0,.int .i64 0,.float .f64 0]):=⟨HMy4.out.store HB5y4.out.1 (by decide) (by decide) _,HB5y4.out.put _,HB6y4.out.far HB5y4.out (by decide) _⟩
          obtain ⟨za,hza⟩:∃ Y,Y=y4.setRow B5 #[.slice aC k cC,.slice aO (k+1) cO]:=⟨_,rfl⟩
          rw [← hza] at HXa HMa ⊢
          clear hza
          refine hK.out _ _ (HKS.out _ HXa.out) (fun hHeld=>?_)
          clear hK
          (try simp only [Act.put,List.setIfInBounds_toArray,List.set_cons_zero,List.set_cons_succ])
          refine wpAnyH_ready (rs:=[7]) (by kernel_rfl) (by simp) ?_
          refine AllReadyH.cons rfl (fun K hK=>?_) AllReadyH.nil
          rw [if_pos (by rfl)]
          have HXb:Hid (Only (fun _=>False) w2 (za.setRow B6 #[.int .i64 (W1:Int),.int .i64 (T1:Int),.int .u8 (M1:Int),.int .i64 (hy:Int),.int .i64 (pr:Int),.float .f64 lo])):=HXa.out.setRowNew HMa.out.2.2.2 _
          refine wp_store_row 35 _ _ rfl B6 #[.int .i64 (W1:Int),.int .i64 (T1:Int),.int .u8 (M1:Int),.int .i64 (hy:Int),.int .i64 (pr:Int),.float .f64 lo] rfl rfl 35 _ HMa.out.2.2.1 (by kernel_rfl) rfl (cfg_one _ _ _ _ _ _) ?_
          have HMb:Hid (Made (za.setRow B6 #[.int .i64 (W1:Int),.int .i64 (T1:Int),.int .u8 (M1:Int),.int .i64 (hy:Int),.int .i64 (pr:Int),.float .f64 lo]) L n0 k aC aO cC cO∧Blk w2 (za.setRow B6 #[.int .i64 (W1:Int),.int .i64 (T1:Int),.int .u8 (M1:Int),.int .i64 (hy:Int),.int .i64 (pr:Int),.float .f64 lo]) B5 31 #[.slice aC k cC,.slice aO (k+1) cO]∧Blk w2 (za.setRow B6 #[.int .i64 (W1:Int),.int .i64 (T1:Int),.int .u8 (M1:Int),.int .i64 (hy:Int),.int .i64 (pr:Int),.float .f64 lo]) B6 35 #[.int .i64 (W1:Int),.int .i64 (T1:Int),.int .u8 (M1:Int),.int .i64 (hy:Int),.int .i64 (pr:Int),.float .f64 lo]):=⟨HMa.out.1.store HMa.out.2.2.1 (by decide) (by decide) _,HMa.out.2.1.far HMa.out.2.2 (by decide) _,HMa.out.2.2.put _⟩
          obtain ⟨zb,hzb⟩:∃ Y,Y=za.setRow B6 #[.int .i64 (W1:Int),.int .i64 (T1:Int),.int .u8 (M1:Int),.int .i64 (hy:Int),.int .i64 (pr:Int),.float .f64 lo]:=⟨_,rfl⟩
          rw [← hzb] at HXb HMb ⊢
          clear hzb
          refine hK.out _ _ (HKS.out _ HXb.out) (fun hHeld=>?_)
          clear hK
          (try simp only [Act.put,List.setIfInBounds_toArray,List.set_cons_zero,List.set_cons_succ])
          refine wpAnyH_done (by kernel_rfl) ?_ _
          clear hHeld
          go_wp2_with fail
          go_meet
          exact ⟨k,B5,B6,aC,aO,cC,cO,_,rfl,rfl,rfl,HMb.out.1,HMb.out.2.1,HMb.out.2.2,HXb.out⟩
        · rw [if_pos (by rfl)]
          go_simp
          obtain ⟨y3,hy3⟩:∃ Y,Y=y2.alloc (.cells #[.slice none 0 0,.slice none 0 0] 31):=⟨_,rfl⟩
          obtain ⟨B5,hB5⟩:∃ b,b=y2.heap.size:=⟨_,rfl⟩
          have ho:Only (fun _=>False) y2 y3:=by rw [hy3];exact (Only.refl _ _).alloc _
          have HXy3:Hid (Only (fun _=>False) w2 y3):=HXy2.out.trans ho
          have HB5y3:Hid (Blk w2 y3 B5 31 #[.slice none 0 0,.slice none 0 0]):=by rw [hy3,hB5];exact Blk.made HXy2.out _ _
          have HB6y3:Hid (Blk w2 y3 B6 35 #[.int .i64 0,.int .i64 0,.int .u8 0,.int .i64 0,.int .i64 0,.float .f64 0]):=HB6y2.out.keep ho
          have HMy3:Hid (Made y3 L n0 k aC aO cC cO):=HMy2.out.keep ho
          rw [← hy3,← hB5]
          clear hy3 hB5 ho
          refine hK.out _ _ (HKS.out _ HXy3.out) (fun hHeld=>?_)
          clear hK
          (try simp only [Act.put,List.setIfInBounds_toArray,List.set_cons_zero,List.set_cons_succ])
          refine wpAnyH_ready (rs:=[3]) (by kernel_rfl) (by simp) ?_
          refine AllReadyH.cons rfl (fun K hK=>?_) AllReadyH.nil
          rw [if_pos (by rfl)]
          go_simp
          refine Calls.mono (HCF.out _) ?_
          rintro e y4 ⟨rfl,ho⟩
          have HMy4:Hid (Made y4 L n0 k aC aO cC cO):=HMy3.out.keep ho
          have HXy4:Hid (Only (fun _=>False) w2 y4):=HXy3.out.trans ho
          have HB5y4:Hid (Blk w2 y4 B5 31 #[.slice none 0 0,.slice none 0 0]):=HB5y3.out.keep ho
          have HB6y4:Hid (Blk w2 y4 B6 35 #[.int .i64 0,.int .i64 0,.int .u8 0,.int .i64 0,.int .i64 0,.float .f64 0]):=HB6y3.out.keep ho
          clear ho
          refine hK.out _ _ (HKS.out _ HXy4.out) (fun hHeld=>?_)
          clear hK
          (try simp only [Act.put,List.setIfInBounds_toArray,List.set_cons_zero,List.set_cons_succ])
          refine wpAnyH_ready (rs:=[6]) (by kernel_rfl) (by simp) ?_
          refine AllReadyH.cons rfl (fun K hK=>?_) AllReadyH.nil
          rw [if_pos (by rfl)]
          have HXa:Hid (Only (fun _=>False) w2 (y4.setRow B5 #[.slice aC k cC,.slice aO (k+1) cO])):=HXy4.out.setRowNew HB5y4.out.2 _
          refine wp_store_row 31 _ _ rfl B5 #[.slice aC k cC,.slice aO (k+1) cO] rfl rfl 31 _ HB5y4.out.1 (by kernel_rfl) rfl (two_one _ _ _ _ _ _) ?_
          have HMa:Hid (Made (y4.setRow B5 #[.slice aC k cC,.slice aO (k+1) cO]) L n0 k aC aO cC cO∧Blk w2 (y4.setRow B5 #[.slice aC k cC,.slice aO (k+1) cO]) B5 31 #[.slice aC k cC,.slice aO (k+1) cO]∧Blk w2 (y4.setRow B5 #[.slice aC k cC,.slice aO (k+1) cO]) B6 35 #[.int .i64 0,.int .i64 0,.int .u8 0,.int .i64 0,.int .i64 0,.float .f64 0]):=⟨HMy4.out.store HB5y4.out.1 (by decide) (by decide) _,HB5y4.out.put _,HB6y4.out.far HB5y4.out (by decide) _⟩
          obtain ⟨za,hza⟩:∃ Y,Y=y4.setRow B5 #[.slice aC k cC,.slice aO (k+1) cO]:=⟨_,rfl⟩
          rw [← hza] at HXa HMa ⊢
          clear hza
          refine hK.out _ _ (HKS.out _ HXa.out) (fun hHeld=>?_)
          clear hK
          (try simp only [Act.put,List.setIfInBounds_toArray,List.set_cons_zero,List.set_cons_succ])
          refine wpAnyH_ready (rs:=[7]) (by kernel_rfl) (by simp) ?_
          refine AllReadyH.cons rfl (fun K hK=>?_) AllReadyH.nil
          rw [if_pos (by rfl)]
          have HXb:Hid (Only (fun _=>False) w2 (za.setRow B6 #[.int .i64 (W1:Int),.int .i64 (T1:Int),.int .u8 (M1:Int),.int .i64 (hy:Int),.int .i64 (pr:Int),.float .f64 lo])):=HXa.out.setRowNew HMa.out.2.2.2 _
          refine wp_store_row 35 _ _ rfl B6 #[.int .i64 (W1:Int),.int .i64 (T1:Int),.int .u8 (M1:Int),.int .i64 (hy:Int),.int .i64 (pr:Int),.float .f64 lo] rfl rfl 35 _ HMa.out.2.2.1 (by kernel_rfl) rfl (cfg_one _ _ _ _ _ _) ?_
          have HMb:Hid (Made (za.setRow B6 #[.int .i64 (W1:Int),.int .i64 (T1:Int),.int .u8 (M1:Int),.int .i64 (hy:Int),.int .i64 (pr:Int),.float .f64 lo]) L n0 k aC aO cC cO∧Blk w2 (za.setRow B6 #[.int .i64 (W1:Int),.int .i64 (T1:Int),.int .u8 (M1:Int),.int .i64 (hy:Int),.int .i64 (pr:Int),.float .f64 lo]) B5 31 #[.slice aC k cC,.slice aO (k+1) cO]∧Blk w2 (za.setRow B6 #[.int .i64 (W1:Int),.int .i64 (T1:Int),.int .u8 (M1:Int),.int .i64 (hy:Int),.int .i64 (pr:Int),.float .f64 lo]) B6 35 #[.int .i64 (W1:Int),.int .i64 (T1:Int),.int .u8 (M1:Int),.int .i64 (hy:Int),.int .i64 (pr:Int),.float .f64 lo]):=⟨HMa.out.1.store HMa.out.2.2.1 (by decide) (by decide) _,HMa.out.2.1.far HMa.out.2.2 (by decide) _,HMa.out.2.2.put _⟩
          obtain ⟨zb,hzb⟩:∃ Y,Y=za.setRow B6 #[.int .i64 (W1:Int),.int .i64 (T1:Int),.int .u8 (M1:Int),.int .i64 (hy:Int),.int .i64 (pr:Int),.float .f64 lo]:=⟨_,rfl⟩
          rw [← hzb] at HXb HMb ⊢
          clear hzb
          refine hK.out _ _ (HKS.out _ HXb.out) (fun hHeld=>?_)
          clear hK
          (try simp only [Act.put,List.setIfInBounds_toArray,List.set_cons_zero,List.set_cons_succ])
          refine wpAnyH_done (by kernel_rfl) ?_ _
          clear hHeld
          go_wp2_with fail
          go_meet
          exact ⟨k,B5,B6,aC,aO,cC,cO,_,rfl,rfl,rfl,HMb.out.1,HMb.out.2.1,HMb.out.2.2,HXb.out⟩
      · rw [if_pos (by rfl)]
        go_simp
        obtain ⟨y2,hy2⟩:∃ Y,Y=y1.alloc (.cells #[.slice none 0 0,.slice none 0 0] 31):=⟨_,rfl⟩
        obtain ⟨B5,hB5⟩:∃ b,b=y1.heap.size:=⟨_,rfl⟩
        have ho:Only (fun _=>False) y1 y2:=by rw [hy2];exact (Only.refl _ _).alloc _
        have HXy2:Hid (Only (fun _=>False) w2 y2):=HXy1.out.trans ho
        have HB5y2:Hid (Blk w2 y2 B5 31 #[.slice none 0 0,.slice none 0 0]):=by rw [hy2,hB5];exact Blk.made HXy1.out _ _
        have HB6y2:Hid (Blk w2 y2 B6 35 #[.int .i64 0,.int .i64 0,.int .u8 0,.int .i64 0,.int .i64 0,.float .f64 0]):=HB6y1.out.keep ho
        rw [← hy2,← hB5]
        clear hy2 hB5 ho
        refine hK.out _ _ (HKS.out _ HXy2.out) (fun hHeld=>?_)
        clear hK
        (try simp only [Act.put,List.setIfInBounds_toArray,List.set_cons_zero,List.set_cons_succ])
        refine wpAnyH_ready (rs:=[1]) (by kernel_rfl) (by simp) ?_
        refine AllReadyH.cons rfl (fun K hK=>?_) AllReadyH.nil
        rw [if_pos (by rfl)]
        go_simp
        refine Calls.mono (HPA.out _ (HW2.out.trans HXy2.out)) ?_
        rintro e y3 ⟨k,aC,aO,cC,cO,rfl,hmd,ho⟩
        have HMy3:Hid (Made y3 L n0 k aC aO cC cO):=hmd
        clear hmd
        have HXy3:Hid (Only (fun _=>False) w2 y3):=HXy2.out.trans ho
        have HB5y3:Hid (Blk w2 y3 B5 31 #[.slice none 0 0,.slice none 0 0]):=HB5y2.out.keep ho
        have HB6y3:Hid (Blk w2 y3 B6 35 #[.int .i64 0,.int .i64 0,.int .u8 0,.int .i64 0,.int .i64 0,.float .f64 0]):=HB6y2.out.keep ho
        clear ho
        refine hK.out _ _ (HKS.out _ HXy3.out) (fun hHeld=>?_)
        clear hK
        (try simp only [Act.put,List.setIfInBounds_toArray,List.set_cons_zero,List.set_cons_succ])
        refine wpAnyH_ready (rs:=[3]) (by kernel_rfl) (by simp) ?_
        refine AllReadyH.cons rfl (fun K hK=>?_) AllReadyH.nil
        rw [if_pos (by rfl)]
        go_simp
        refine Calls.mono (HCF.out _) ?_
        rintro e y4 ⟨rfl,ho⟩
        have HMy4:Hid (Made y4 L n0 k aC aO cC cO):=HMy3.out.keep ho
        have HXy4:Hid (Only (fun _=>False) w2 y4):=HXy3.out.trans ho
        have HB5y4:Hid (Blk w2 y4 B5 31 #[.slice none 0 0,.slice none 0 0]):=HB5y3.out.keep ho
        have HB6y4:Hid (Blk w2 y4 B6 35 #[.int .i64 0,.int .i64 0,.int .u8 0,.int .i64 0,.int .i64 0,.float .f64 0]):=HB6y3.out.keep ho
        clear ho
        refine hK.out _ _ (HKS.out _ HXy4.out) (fun hHeld=>?_)
        clear hK
        (try simp only [Act.put,List.setIfInBounds_toArray,List.set_cons_zero,List.set_cons_succ])
        refine wpAnyH_ready (rs:=[6]) (by kernel_rfl) (by simp) ?_
        refine AllReadyH.cons rfl (fun K hK=>?_) AllReadyH.nil
        rw [if_pos (by rfl)]
        have HXa:Hid (Only (fun _=>False) w2 (y4.setRow B5 #[.slice aC k cC,.slice aO (k+1) cO])):=HXy4.out.setRowNew HB5y4.out.2 _
        refine wp_store_row 31 _ _ rfl B5 #[.slice aC k cC,.slice aO (k+1) cO] rfl rfl 31 _ HB5y4.out.1 (by kernel_rfl) rfl (two_one _ _ _ _ _ _) ?_
        have HMa:Hid (Made (y4.setRow B5 #[.slice aC k cC,.slice aO (k+1) cO]) L n0 k aC aO cC cO∧Blk w2 (y4.setRow B5 #[.slice aC k cC,.slice aO (k+1) cO]) B5 31 #[.slice aC k cC,.slice aO (k+1) cO]∧Blk w2 (y4.setRow B5 #[.slice aC k cC,.slice aO (k+1) cO]) B6 35 #[.int .i64 0,.int .i64 0,.int .u8 0,.int .i64 0,.int .i64 0,.float .f64 0]):=⟨HMy4.out.store HB5y4.out.1 (by decide) (by decide) _,HB5y4.out.put _,HB6y4.out.far HB5y4.out (by decide) _⟩
        obtain ⟨za,hza⟩:∃ Y,Y=y4.setRow B5 #[.slice aC k cC,.slice aO (k+1) cO]:=⟨_,rfl⟩
        rw [← hza] at HXa HMa ⊢
        clear hza
        refine hK.out _ _ (HKS.out _ HXa.out) (fun hHeld=>?_)
        clear hK
        (try simp only [Act.put,List.setIfInBounds_toArray,List.set_cons_zero,List.set_cons_succ])
        refine wpAnyH_ready (rs:=[7]) (by kernel_rfl) (by simp) ?_
        refine AllReadyH.cons rfl (fun K hK=>?_) AllReadyH.nil
        rw [if_pos (by rfl)]
        have HXb:Hid (Only (fun _=>False) w2 (za.setRow B6 #[.int .i64 (W1:Int),.int .i64 (T1:Int),.int .u8 (M1:Int),.int .i64 (hy:Int),.int .i64 (pr:Int),.float .f64 lo])):=HXa.out.setRowNew HMa.out.2.2.2 _
        refine wp_store_row 35 _ _ rfl B6 #[.int .i64 (W1:Int),.int .i64 (T1:Int),.int .u8 (M1:Int),.int .i64 (hy:Int),.int .i64 (pr:Int),.float .f64 lo] rfl rfl 35 _ HMa.out.2.2.1 (by kernel_rfl) rfl (cfg_one _ _ _ _ _ _) ?_
        have HMb:Hid (Made (za.setRow B6 #[.int .i64 (W1:Int),.int .i64 (T1:Int),.int .u8 (M1:Int),.int .i64 (hy:Int),.int .i64 (pr:Int),.float .f64 lo]) L n0 k aC aO cC cO∧Blk w2 (za.setRow B6 #[.int .i64 (W1:Int),.int .i64 (T1:Int),.int .u8 (M1:Int),.int .i64 (hy:Int),.int .i64 (pr:Int),.float .f64 lo]) B5 31 #[.slice aC k cC,.slice aO (k+1) cO]∧Blk w2 (za.setRow B6 #[.int .i64 (W1:Int),.int .i64 (T1:Int),.int .u8 (M1:Int),.int .i64 (hy:Int),.int .i64 (pr:Int),.float .f64 lo]) B6 35 #[.int .i64 (W1:Int),.int .i64 (T1:Int),.int .u8 (M1:Int),.int .i64 (hy:Int),.int .i64 (pr:Int),.float .f64 lo]):=⟨HMa.out.1.store HMa.out.2.2.1 (by decide) (by decide) _,HMa.out.2.1.far HMa.out.2.2 (by decide) _,HMa.out.2.2.put _⟩
        obtain ⟨zb,hzb⟩:∃ Y,Y=za.setRow B6 #[.int .i64 (W1:Int),.int .i64 (T1:Int),.int .u8 (M1:Int),.int .i64 (hy:Int),.int .i64 (pr:Int),.float .f64 lo]:=⟨_,rfl⟩
        rw [← hzb] at HXb HMb ⊢
        clear hzb
        refine hK.out _ _ (HKS.out _ HXb.out) (fun hHeld=>?_)
        clear hK
        (try simp only [Act.put,List.setIfInBounds_toArray,List.set_cons_zero,List.set_cons_succ])
        refine wpAnyH_done (by kernel_rfl) ?_ _
        clear hHeld
        go_wp2_with fail
        go_meet
        exact ⟨k,B5,B6,aC,aO,cC,cO,_,rfl,rfl,rfl,HMb.out.1,HMb.out.2.1,HMb.out.2.2,HXb.out⟩
  case rest =>
    obtain ⟨k,B5,B6,aC,aO,cC,cO,X,hX,rfl,rfl,hmd,hb5,hb6,hoX⟩:=hcut
    subst hX
    obtain ⟨C,hC⟩:∃ x,x=Pa.cts (L.take k) 0:=⟨_,rfl⟩
    obtain ⟨O,hO⟩:∃ x,x=Pa.ops L k++[2]:=⟨_,rfl⟩
    have HMD:Hid (Made X L n0 k aC aO cC cO∧C=Pa.cts (L.take k) 0∧O=Pa.ops L k++[2]):=⟨hmd,hC,hO⟩
    have HPv:Hid (∀ W',Only (fun _=>False) X W'→Pv W' C O k (k+1) aC aO cC cO):=fun W' ho=>by rw [hC,hO];exact (hmd.pv (by omega) HN.out).keep ho
    have HO4:Hid (∀ x∈O,x < 4):=by rw [hO];exact ops_lt L k
    have HOL:Hid (O.length=k+1∧O.getD k 0=2):=by rw [hO];exact ⟨by rw [List.length_append,Pa.ops_len];rfl,ops_end L k⟩
    have hk0:k≤n0:=hmd.le
    have HPC:Hid (∀ W',Only (fun _=>False) X W'→(W'.cell? ⟨B5,0,none⟩=some (.slice aC k cC)∧W'.cell? ⟨B5,1,none⟩=some (.slice aO (k+1) cO))∧(W'.cell? ⟨B6,0,none⟩=some (.int .i64 (W1:Int))∧W'.cell? ⟨B6,1,none⟩=some (.int .i64 (T1:Int))∧W'.cell? ⟨B6,2,none⟩=some (.int .u8 (M1:Int))∧W'.cell? ⟨B6,3,none⟩=some (.int .i64 (hy:Int))∧W'.cell? ⟨B6,4,none⟩=some (.int .i64 (pr:Int))∧W'.cell? ⟨B6,5,none⟩=some (.float .f64 lo))):=fun W' ho=>⟨⟨(blk_two (blk_keep ho hb5.1)).1,(blk_two (blk_keep ho hb5.1)).2.1⟩,blk_six (blk_keep ho hb6.1)⟩
    have HLT:Hid (∀ W',Only (fun _=>False) X W'→B5 < W'.heap.size∧B6 < W'.heap.size):=fun W' ho=>⟨(Array.getElem?_eq_some_iff.1 (blk_keep ho hb5.1)).1,(Array.getElem?_eq_some_iff.1 (blk_keep ho hb6.1)).1⟩
    have HWX:Hid (Only (fun _=>False) w X∧Blk w2 X B6 35 #[.int .i64 (W1:Int),.int .i64 (T1:Int),.int .u8 (M1:Int),.int .i64 (hy:Int),.int .i64 (pr:Int),.float .f64 lo]):=⟨HW2.out.trans hoX,hb6⟩
    clear hmd hC hO hb5 hb6 hoX
    obtain ⟨P,hP⟩:∃ x,x=It.parts O (k+1):=⟨_,rfl⟩
    obtain ⟨np,hnp⟩:∃ x,x=P.length:=⟨_,rfl⟩
    have HPT:Hid (Calls Try.prog 11 #[.agg #[.slice aC k cC,.slice aO (k+1) cO]] X fun e w'=>∃ (a:Option Addr) (c:Nat),e=.returned (.slice a np c)∧Vw w' a (natI P)∧Only (fun _=>False) X w'):=by
      have h:=refParts_any k aC cC O aO cO X (HPv.out X (Only.refl _ _)).vO (fun x hx=>Nat.lt_of_lt_of_le (HO4.out x hx) (by decide)) (by rw [HOL.out.1];omega)
      rw [HOL.out.1,← hP] at h
      refine h.mono ?_
      rintro e w' ⟨a,c,he,hown,ho⟩
      rw [← hnp] at he hown
      exact ⟨a,c,he,own_vw hown,ho⟩
    have HPP:Hid (P=It.parts O (k+1)∧np=P.length∧np≤k+1):=⟨hP,hnp,by rw [hnp,hP];exact It.parts_len O (k+1)⟩
    have hnp2:np≤k+1:=HPP.out.2.2
    clear hP hnp
    obtain ⟨bo,oo,rfl,hbo,hco⟩:=(HPv.out X (Only.refl _ _)).vO.cells (by rw [u8s_len,HOL.out.1];omega)
    have HCO:Hid (∀ W',Only (fun _=>False) X W'→∀ k e:Nat,O[k]?=some e→W'.cell? ⟨bo,oo+k,none⟩=some (.int .u8 (e:Int))):=fun W' ho k e hk=>keep0 ho (hco k _ (u8s_at hk))
    clear hbo hco
    obtain ⟨⟨r0,r1⟩,k0,k1,k2,k3,k4,k5⟩:=HPC.out X (Only.refl _ _)
    obtain ⟨l5,l6⟩:=HLT.out X (Only.refl _ _)
    go_wp2_with fail
    refine Calls.mono HPT.out ?_
    rintro e V0 ⟨aP,cP,rfl,hVP,hoV0⟩
    have HV0:Hid (Vw V0 aP (natI P)∧Only (fun _=>False) X V0):=⟨hVP,hoV0⟩
    clear hVP hoV0 r0 r1 k0 k1 k2 k3 k4 k5 l5 l6 HPT
    go_wp2_with fail
    go_loopg [7,27] np (fun gh v7 v22 wr=>∃ (i f:Nat) (V:World),V=wr∧gh=np - i∧i≤np∧v7=.int .i64 (f:Int)∧v22=.int .i64 (i:Int)∧f=It.fr P i∧Only (fun _=>False) V0 V)
    case atStart=>exact ⟨0,0,_,rfl,rfl,Nat.zero_le _,rfl,rfl,rfl,Only.refl _ _⟩
    case round =>
      obtain ⟨i,f,V,hV,rfl,hi,rfl,rfl,hf,hoV⟩:=hrel
      subst hV
      have HG:Hid (f=It.fr P i∧Only (fun _=>False) V0 V∧Only (fun _=>False) X V):=⟨hf,hoV,HV0.out.2.trans hoV⟩
      clear hf hoV
      by_cases hlt:i < np
      · have t1:(i:Int) < (np:Int):=by omega
        obtain ⟨x,hx⟩:∃ x,P[i]?=some x:=⟨_,List.getElem?_eq_getElem (by rw [← HPP.out.2.1];exact hlt)⟩
        obtain ⟨g,off,rfl,hg,hc⟩:=(HV0.out.1.keep HG.out.2.1).cells (by rw [natI_len,← HPP.out.2.1];omega)
        have c0:=hc i _ (natI_get hx)
        have hfx:f≤x:=by rw [HG.out.1,HPP.out.1];exact (It.fr_le (by rw [← HPP.out.1];exact hx)).1
        have hxk:x≤k:=by have:=(It.parts_at (by rw [← HPP.out.1];exact hx:(It.parts O (k+1))[i]?=some x)).1;omega
        have HXS:Hid (It.fr P (i+1)=x):=It.fr_succ P hx
        obtain ⟨Ls,hLs⟩:∃ l,l=Sp.lines C O T1 W1 f x:=⟨_,rfl⟩
        obtain ⟨nL,hnL⟩:∃ l,l=Ls.length:=⟨_,rfl⟩
        have hnL2:nL≤1000:=by rw [hnL,hLs];exact Nat.le_trans (lines_len C O T1 W1 x f) (by omega)
        have HLL:Hid (Ls=Sp.lines C O T1 W1 f x∧nL=Ls.length):=⟨hLs,hnL⟩
        have HBK:Hid (∀ W',Only (fun _=>False) X W'→Calls Try.prog 13 #[.agg #[.slice aC k cC,.slice (some ⟨bo,oo,none⟩) (k+1) cO],.int .i64 (f:Int),.int .i64 (x:Int),.agg #[.int .i64 (W1:Int),.int .i64 (T1:Int),.int .u8 (M1:Int),.int .i64 (hy:Int),.int .i64 (pr:Int),.float .f64 lo]] W' fun e w'=>∃ (a:Option Addr) (c:Nat),e=.returned (.slice a nL c)∧Vw w' a (lnC Ls)∧Only (fun _=>False) W' w'):=fun W' ho=>by
          refine (break_any C O k (k+1) aC _ cC cO f x W1 T1 M1 hy pr lo W' (HPv.out W' ho) (by omega) hfx hxk (by omega) ht0 (by omega)).mono ?_
          rintro e w' ⟨n,a,c,hn,he,hown,ho'⟩
          rw [← hLs,← hnL] at hn
          subst hn
          rw [← hLs] at hown
          exact ⟨a,c,he,own_vw hown,ho'⟩
        obtain ⟨⟨r0,r1⟩,k0,k1,k2,k3,k4,k5⟩:=HPC.out V HG.out.2.2
        obtain ⟨l5,l6⟩:=HLT.out V HG.out.2.2
        clear hx hc hLs hnL
        go_wp2_with fail
        refine Calls.mono (HBK.out _ HG.out.2.2) ?_
        rintro e V1 ⟨aL,cL,rfl,hVL,hoL⟩
        have HV1:Hid (Vw V1 aL (lnC Ls)∧Only (fun _=>False) X V1∧Only (fun _=>False) V0 V1):=⟨hVL,HG.out.2.2.trans hoL,HG.out.2.1.trans hoL⟩
        clear hVL hoL r0 r1 k0 k1 k2 k3 k4 k5 l5 l6 c0
        go_wp2_with fail
        go_loopg [10,38] nL (fun gh v10 v38 wr=>∃ (j q:Nat) (U:World),U=wr∧gh=nL - j∧j≤nL∧f≤q∧q≤x∧v10=.int .i64 (q:Int)∧v38=.int .i64 (j:Int)∧Ls.drop j=Sp.lines C O T1 W1 q x∧Only (fun _=>False) V1 U)
        case atStart=>exact ⟨0,f,_,rfl,rfl,Nat.zero_le _,Nat.le_refl _,hfx,rfl,rfl,HLL.out.1,Only.refl _ _⟩
        case round =>
          obtain ⟨j,q,U,hU,rfl,hj,hfq,hqx,rfl,rfl,hdr,hoU⟩:=hrel
          subst hU
          have HU:Hid (Ls.drop j=Sp.lines C O T1 W1 q x∧Only (fun _=>False) V1 U∧Only (fun _=>False) X U):=⟨hdr,hoU,HV1.out.2.1.trans hoU⟩
          clear hdr hoU
          by_cases hjl:j < nL
          · have t2:(j:Int) < (nL:Int):=by omega
            obtain ⟨hqj,hat,hnx⟩:=Sp.lines_at HU.out.1 (by rw [← HLL.out.2];exact hjl)
            have hin:=Sp.nxt_in (C:=C) (O:=O) (t:=T1) (W:=W1) hqj
            have hsay:=Sp.nxt_says (C:=C) (O:=O) (t:=T1) (W:=W1) ht0 hqj
            have hwide:=Sp.nxt_wide (C:=C) (O:=O) (t:=T1) (W:=W1) hqj
            have hle4:=nxt_le4 (C:=C) (O:=O) (t:=T1) (W:=W1) (a:=q) (b:=x) HO4.out
            unfold Sp.ln at hat
            obtain ⟨x1,hx1⟩:∃ y,y=(Sp.nxt C O T1 W1 q x).1:=⟨_,rfl⟩
            obtain ⟨x2,hx2⟩:∃ y,y=(Sp.nxt C O T1 W1 q x).2:=⟨_,rfl⟩
            rw [← hx1,← hx2] at hat hsay hwide
            rw [← hx1] at hin hnx
            rw [← hx2] at hle4
            obtain ⟨ce,hce⟩:∃ y,y=Sp.wde C T1 q x1 x2:=⟨_,rfl⟩
            rw [← hce] at hat hwide
            have hce1:ce≤66001:=by rw [hce];exact Sp.wde_small (HPv.out X (Only.refl _ _)).ok ht0 ht1 (by omega)
            have HSY:Hid (((∀ kk,q < kk→kk≤x→Sp.ok C O T1 W1 q kk=true→x2=O.getD x1 0∧kk≤x1)∧(∀ y,O.getD y 0 < 4))∧Ls.drop (j+1)=Sp.lines C O T1 W1 x1 x):=⟨⟨fun kk h1 h2 h3=>⟨(hsay.2 kk h1 h2 h3).1,(hsay.2 kk h1 h2 h3).2.2⟩,hle4.2⟩,hnx⟩
            have h24:x2=4∨(x2≠4∧x2=O.getD x1 0∧x2≠0):=by
              by_cases h:x2=4
              · exact Or.inl h
              · rcases hsay.1 h with h' | h'
                · exact Or.inr ⟨h,h'.1,h'.2⟩
                · have:=hle4.1;omega
            have HWD:Hid (W1 < ce→x1=q+1∧Sp.tr C q 1=q+1):=hwide
            have hx24:x2≤4:=hle4.1
            obtain ⟨g2,off2,rfl,hg2,d0,d1,d2,d3⟩:=(HV1.out.1.keep HU.out.2.1).line hat
            simp only at d0 d1 d2 d3
            have hin1:=hin.1
            have hin2:=hin.2
            clear hat hnx hsay hwide hle4 hx1 hx2 hce hin
            go_upto_region 14 with fail
            obtain ⟨XB,U1,hU1,hXB,H1,lXB⟩:=box4 U (.int .i64 (q:Int)) (.int .i64 (x1:Int)) (.int .i64 (ce:Int)) (.int .u8 (x2:Int)) 45
            rw [hU1,hXB]
            have HX1:Hid (Only (fun _=>False) V1 U1∧Only (fun _=>False) X U1):=⟨HU.out.2.1.trans H1.out.2.1,HU.out.2.2.trans H1.out.2.1⟩
            have HXC:Hid (∀ W',Only (fun _=>False) U1 W'→W'.cell? ⟨XB,0,none⟩=some (.int .i64 (q:Int))∧W'.cell? ⟨XB,1,none⟩=some (.int .i64 (x1:Int))∧W'.cell? ⟨XB,2,none⟩=some (.int .i64 (ce:Int))∧W'.cell? ⟨XB,3,none⟩=some (.int .u8 (x2:Int))∧XB < W'.heap.size):=fun W' ho=>⟨(blk_four (blk_keep ho H1.out.1)).1,(blk_four (blk_keep ho H1.out.1)).2.1,(blk_four (blk_keep ho H1.out.1)).2.2.1,(blk_four (blk_keep ho H1.out.1)).2.2.2,(Array.getElem?_eq_some_iff.1 (blk_keep ho H1.out.1)).1⟩
            clear hU1 hXB lXB d0 d1 d2 d3
            obtain ⟨a0',a1',a2',a3',aL'⟩:=HXC.out U1 (Only.refl _ _)
            obtain ⟨⟨r0,r1⟩,k0,k1,k2,k3,k4,k5⟩:=HPC.out U1 HX1.out.2
            obtain ⟨l5,l6⟩:=HLT.out U1 HX1.out.2
            obtain ⟨e1,hO1,hD1⟩:=getD_some (O:=O) (k:=x1) (by rw [HOL.out.1];omega)
            have cO1:=HCO.out U1 HX1.out.2 x1 e1 hO1
            have s1:decide ((x1:Int)≤(q:Int))=false:=decide_eq_false (by omega)
            have s2:decide ((x:Int) < (x1:Int))=false:=decide_eq_false (by omega)
            have s3:(x1:Int) < (k:Int)+1:=by omega
            rcases h24 with h24 | ⟨h24,h25,h26⟩
            · have s4:((x2:Int) != 4)=false:=by simp;omega
              have s5:((x2:Int) == 0)=false:=by rw [beq_eq_false_iff_ne];omega
              have s6:((x2:Int) == 4)=true:=by rw [beq_iff_eq];omega
              clear hO1 hD1
              have H24:Hid (x2=4):=h24
              clear h24
              by_cases hwd:ce≤W1
              · as_aux_lemma =>
                have v1':decide ((W1:Int) < (ce:Int))=false:=decide_eq_false (by omega)
                refine wp_region_held_drew (S:=(fun W'=>W'.cell? ⟨XB,0,none⟩=some (.int .i64 (q:Int))∧W'.cell? ⟨XB,1,none⟩=some (.int .i64 (x1:Int))∧W'.cell? ⟨XB,3,none⟩=some (.int .u8 (x2:Int))∧W'.cell? ⟨B5,1,none⟩=some (.slice (some ⟨bo,oo,none⟩) (k+1) cO))) (by kernel_rfl) (⟨(HXC.out _ (Only.refl _ _).drew).1,(HXC.out _ (Only.refl _ _).drew).2.1,(HXC.out _ (Only.refl _ _).drew).2.2.2.1,(HPC.out _ HX1.out.2.drew).1.2⟩) (fun hHeld=>?_)
                refine wpAnyH_take (i:=0) (oi:={ dst:=some 42,op:=_,type:=_,pos:=_,after:=_,guard:=_ }) (v:=.pointer (some ⟨XB,0,none⟩)) rfl (by kernel_rfl) (by kernel_rfl) (by kernel_rfl) (fun _ _ _ h=>h) (Or.inl ⟨by rfl,fun w hSw=>by obtain ⟨y0,y1,y2,y3⟩:=hSw;first | (go_simp;done) | go_simp⟩) (by assumption) ?_
                (try simp only [Act.put,List.setIfInBounds_toArray,List.set_cons_zero,List.set_cons_succ])
                refine wpAnyH_take (i:=1) (oi:={ dst:=some 43,op:=_,type:=_,pos:=_,after:=_,guard:=_ }) (v:=.int .i64 (q:Int)) rfl (by kernel_rfl) (by kernel_rfl) (by kernel_rfl) (fun _ _ _ h=>h) (Or.inl ⟨by rfl,fun w hSw=>by obtain ⟨y0,y1,y2,y3⟩:=hSw;first | (go_simp;done) | go_simp⟩) (by assumption) ?_
                (try simp only [Act.put,List.setIfInBounds_toArray,List.set_cons_zero,List.set_cons_succ])
                refine wpAnyH_take (i:=2) (oi:={ dst:=some 44,op:=_,type:=_,pos:=_,after:=_,guard:=_ }) (v:=.int .i64 (q:Int)) rfl (by kernel_rfl) (by kernel_rfl) (by kernel_rfl) (fun _ _ _ h=>h) (Or.inl ⟨by rfl,fun w hSw=>by obtain ⟨y0,y1,y2,y3⟩:=hSw;first | (go_simp;done) | go_simp⟩) (by assumption) ?_
                (try simp only [Act.put,List.setIfInBounds_toArray,List.set_cons_zero,List.set_cons_succ])
                refine wpAnyH_take (i:=3) (oi:={ dst:=some 45,op:=_,type:=_,pos:=_,after:=_,guard:=_ }) (v:=.bool false) rfl (by kernel_rfl) (by kernel_rfl) (by kernel_rfl) (fun _ _ _ h=>h) (Or.inl ⟨by rfl,fun w hSw=>by obtain ⟨y0,y1,y2,y3⟩:=hSw;first | (go_simp;done) | go_simp⟩) (by assumption) ?_
                (try simp only [Act.put,List.setIfInBounds_toArray,List.set_cons_zero,List.set_cons_succ])
                refine wpAnyH_take (i:=4) (oi:={ dst:=some 46,op:=_,type:=_,pos:=_,after:=_,guard:=_ }) (v:=.bool false) rfl (by kernel_rfl) (by kernel_rfl) (by kernel_rfl) (fun _ _ _ h=>h) (Or.inl ⟨by rfl,fun w hSw=>by obtain ⟨y0,y1,y2,y3⟩:=hSw;first | (go_simp;done) | go_simp⟩) (by assumption) ?_
                (try simp only [Act.put,List.setIfInBounds_toArray,List.set_cons_zero,List.set_cons_succ])
                refine wpAnyH_take (i:=5) (oi:={ dst:=some 47,op:=_,type:=_,pos:=_,after:=_,guard:=_ }) (v:=.pointer (some ⟨XB,1,none⟩)) rfl (by kernel_rfl) (by kernel_rfl) (by kernel_rfl) (fun _ _ _ h=>h) (Or.inl ⟨by rfl,fun w hSw=>by obtain ⟨y0,y1,y2,y3⟩:=hSw;first | (go_simp;done) | go_simp⟩) (by assumption) ?_
                (try simp only [Act.put,List.setIfInBounds_toArray,List.set_cons_zero,List.set_cons_succ])
                refine wpAnyH_take (i:=6) (oi:={ dst:=some 48,op:=_,type:=_,pos:=_,after:=_,guard:=_ }) (v:=.int .i64 (x1:Int)) rfl (by kernel_rfl) (by kernel_rfl) (by kernel_rfl) (fun _ _ _ h=>h) (Or.inl ⟨by rfl,fun w hSw=>by obtain ⟨y0,y1,y2,y3⟩:=hSw;first | (go_simp;done) | go_simp⟩) (by assumption) ?_
                (try simp only [Act.put,List.setIfInBounds_toArray,List.set_cons_zero,List.set_cons_succ])
                refine wpAnyH_take (i:=7) (oi:={ dst:=some 49,op:=_,type:=_,pos:=_,after:=_,guard:=_ }) (v:=.int .i64 (q:Int)) rfl (by kernel_rfl) (by kernel_rfl) (by kernel_rfl) (fun _ _ _ h=>h) (Or.inl ⟨by rfl,fun w hSw=>by obtain ⟨y0,y1,y2,y3⟩:=hSw;first | (go_simp;done) | go_simp⟩) (by assumption) ?_
                (try simp only [Act.put,List.setIfInBounds_toArray,List.set_cons_zero,List.set_cons_succ])
                refine wpAnyH_take (i:=8) (oi:={ dst:=some 50,op:=_,type:=_,pos:=_,after:=_,guard:=_ }) (v:=.bool false) rfl (by kernel_rfl) (by kernel_rfl) (by kernel_rfl) (fun _ _ _ h=>h) (Or.inl ⟨by rfl,fun w hSw=>by obtain ⟨y0,y1,y2,y3⟩:=hSw;first | (go_simp;done) | go_simp⟩) (by assumption) ?_
                (try simp only [Act.put,List.setIfInBounds_toArray,List.set_cons_zero,List.set_cons_succ])
                refine wpAnyH_take (i:=9) (oi:={ dst:=some 51,op:=_,type:=_,pos:=_,after:=_,guard:=_ }) (v:=.bool false) rfl (by kernel_rfl) (by kernel_rfl) (by kernel_rfl) (fun _ _ _ h=>h) (Or.inl ⟨by rfl,fun w hSw=>by obtain ⟨y0,y1,y2,y3⟩:=hSw;first | (go_simp;done) | go_simp⟩) (by assumption) ?_
                (try simp only [Act.put,List.setIfInBounds_toArray,List.set_cons_zero,List.set_cons_succ])
                refine wpAnyH_take (i:=10) (oi:={ dst:=some 52,op:=_,type:=_,pos:=_,after:=_,guard:=_ }) (v:=.bool false) rfl (by kernel_rfl) (by kernel_rfl) (by kernel_rfl) (fun _ _ _ h=>h) (Or.inl ⟨by rfl,fun w hSw=>by obtain ⟨y0,y1,y2,y3⟩:=hSw;first | (go_simp;done) | go_simp⟩) (by assumption) ?_
                (try simp only [Act.put,List.setIfInBounds_toArray,List.set_cons_zero,List.set_cons_succ])
                refine wpAnyH_take (i:=11) (oi:={ dst:=some 53,op:=_,type:=_,pos:=_,after:=_,guard:=_ }) (v:=.pointer (some ⟨XB,1,none⟩)) rfl (by kernel_rfl) (by kernel_rfl) (by kernel_rfl) (fun _ _ _ h=>h) (Or.inl ⟨by rfl,fun w hSw=>by obtain ⟨y0,y1,y2,y3⟩:=hSw;first | (go_simp;done) | go_simp⟩) (by assumption) ?_
                (try simp only [Act.put,List.setIfInBounds_toArray,List.set_cons_zero,List.set_cons_succ])
                refine wpAnyH_take (i:=12) (oi:={ dst:=some 54,op:=_,type:=_,pos:=_,after:=_,guard:=_ }) (v:=.int .i64 (x1:Int)) rfl (by kernel_rfl) (by kernel_rfl) (by kernel_rfl) (fun _ _ _ h=>h) (Or.inl ⟨by rfl,fun w hSw=>by obtain ⟨y0,y1,y2,y3⟩:=hSw;first | (go_simp;done) | go_simp⟩) (by assumption) ?_
                (try simp only [Act.put,List.setIfInBounds_toArray,List.set_cons_zero,List.set_cons_succ])
                refine wpAnyH_take (i:=13) (oi:={ dst:=some 55,op:=_,type:=_,pos:=_,after:=_,guard:=_ }) (v:=.int .i64 (x:Int)) rfl (by kernel_rfl) (by kernel_rfl) (by kernel_rfl) (fun _ _ _ h=>h) (Or.inl ⟨by rfl,fun w hSw=>by obtain ⟨y0,y1,y2,y3⟩:=hSw;first | (go_simp;done) | go_simp⟩) (by assumption) ?_
                (try simp only [Act.put,List.setIfInBounds_toArray,List.set_cons_zero,List.set_cons_succ])
                refine wpAnyH_take (i:=14) (oi:={ dst:=some 56,op:=_,type:=_,pos:=_,after:=_,guard:=_ }) (v:=.bool false) rfl (by kernel_rfl) (by kernel_rfl) (by kernel_rfl) (fun _ _ _ h=>h) (Or.inl ⟨by rfl,fun w hSw=>by obtain ⟨y0,y1,y2,y3⟩:=hSw;first | (go_simp;done) | go_simp⟩) (by assumption) ?_
                (try simp only [Act.put,List.setIfInBounds_toArray,List.set_cons_zero,List.set_cons_succ])
                refine wpAnyH_take (i:=15) (oi:={ dst:=some 57,op:=_,type:=_,pos:=_,after:=_,guard:=_ }) (v:=.bool false) rfl (by kernel_rfl) (by kernel_rfl) (by kernel_rfl) (fun _ _ _ h=>h) (Or.inl ⟨by rfl,fun w hSw=>by obtain ⟨y0,y1,y2,y3⟩:=hSw;first | (go_simp;done) | go_simp⟩) (by assumption) ?_
                (try simp only [Act.put,List.setIfInBounds_toArray,List.set_cons_zero,List.set_cons_succ])
                refine wpAnyH_take (i:=16) (oi:={ dst:=some 58,op:=_,type:=_,pos:=_,after:=_,guard:=_ }) (v:=.bool false) rfl (by kernel_rfl) (by kernel_rfl) (by kernel_rfl) (fun _ _ _ h=>h) (Or.inl ⟨by rfl,fun w hSw=>by obtain ⟨y0,y1,y2,y3⟩:=hSw;first | (go_simp;done) | go_simp⟩) (by assumption) ?_
                (try simp only [Act.put,List.setIfInBounds_toArray,List.set_cons_zero,List.set_cons_succ])
                refine wpAnyH_take (i:=17) (oi:={ dst:=some 59,op:=_,type:=_,pos:=_,after:=_,guard:=_ }) (v:=.pointer (some ⟨XB,3,none⟩)) rfl (by kernel_rfl) (by kernel_rfl) (by kernel_rfl) (fun _ _ _ h=>h) (Or.inl ⟨by rfl,fun w hSw=>by obtain ⟨y0,y1,y2,y3⟩:=hSw;first | (go_simp;done) | go_simp⟩) (by assumption) ?_
                (try simp only [Act.put,List.setIfInBounds_toArray,List.set_cons_zero,List.set_cons_succ])
                refine wpAnyH_take (i:=18) (oi:={ dst:=some 60,op:=_,type:=_,pos:=_,after:=_,guard:=_ }) (v:=.int .u8 (x2:Int)) rfl (by kernel_rfl) (by kernel_rfl) (by kernel_rfl) (fun _ _ _ h=>h) (Or.inl ⟨by rfl,fun w hSw=>by obtain ⟨y0,y1,y2,y3⟩:=hSw;first | (go_simp;done) | go_simp⟩) (by assumption) ?_
                (try simp only [Act.put,List.setIfInBounds_toArray,List.set_cons_zero,List.set_cons_succ])
                refine wpAnyH_take (i:=19) (oi:={ dst:=some 61,op:=_,type:=_,pos:=_,after:=_,guard:=_ }) (v:=.bool false) rfl (by kernel_rfl) (by kernel_rfl) (by kernel_rfl) (fun _ _ _ h=>h) (Or.inl ⟨by rfl,fun w hSw=>by obtain ⟨y0,y1,y2,y3⟩:=hSw;first | (go_simp;done) | go_simp⟩) (by assumption) ?_
                (try simp only [Act.put,List.setIfInBounds_toArray,List.set_cons_zero,List.set_cons_succ])
                refine wpAnyH_take (i:=20) (oi:={ dst:=some 62,op:=_,type:=_,pos:=_,after:=_,guard:=_ }) (v:=.bool false) rfl (by kernel_rfl) (by kernel_rfl) (by kernel_rfl) (fun _ _ _ h=>h) (Or.inl ⟨by rfl,fun w hSw=>by obtain ⟨y0,y1,y2,y3⟩:=hSw;first | (go_simp;done) | go_simp⟩) (by assumption) ?_
                (try simp only [Act.put,List.setIfInBounds_toArray,List.set_cons_zero,List.set_cons_succ])
                refine wpAnyH_take (i:=21) (oi:={ dst:=some 63,op:=_,type:=_,pos:=_,after:=_,guard:=_ }) (v:=undef) rfl (by kernel_rfl) (by kernel_rfl) (by kernel_rfl) (fun _ _ _ h=>h) (Or.inr ⟨by rfl,rfl⟩) (by assumption) ?_
                (try simp only [Act.put,List.setIfInBounds_toArray,List.set_cons_zero,List.set_cons_succ])
                refine wpAnyH_take (i:=22) (oi:={ dst:=some 64,op:=_,type:=_,pos:=_,after:=_,guard:=_ }) (v:=undef) rfl (by kernel_rfl) (by kernel_rfl) (by kernel_rfl) (fun _ _ _ h=>h) (Or.inr ⟨by rfl,rfl⟩) (by assumption) ?_
                (try simp only [Act.put,List.setIfInBounds_toArray,List.set_cons_zero,List.set_cons_succ])
                refine wpAnyH_take (i:=23) (oi:={ dst:=some 65,op:=_,type:=_,pos:=_,after:=_,guard:=_ }) (v:=undef) rfl (by kernel_rfl) (by kernel_rfl) (by kernel_rfl) (fun _ _ _ h=>h) (Or.inr ⟨by rfl,rfl⟩) (by assumption) ?_
                (try simp only [Act.put,List.setIfInBounds_toArray,List.set_cons_zero,List.set_cons_succ])
                refine wpAnyH_take (i:=24) (oi:={ dst:=some 66,op:=_,type:=_,pos:=_,after:=_,guard:=_ }) (v:=undef) rfl (by kernel_rfl) (by kernel_rfl) (by kernel_rfl) (fun _ _ _ h=>h) (Or.inr ⟨by rfl,rfl⟩) (by assumption) ?_
                (try simp only [Act.put,List.setIfInBounds_toArray,List.set_cons_zero,List.set_cons_succ])
                refine wpAnyH_take (i:=25) (oi:={ dst:=some 67,op:=_,type:=_,pos:=_,after:=_,guard:=_ }) (v:=undef) rfl (by kernel_rfl) (by kernel_rfl) (by kernel_rfl) (fun _ _ _ h=>h) (Or.inr ⟨by rfl,rfl⟩) (by assumption) ?_
                (try simp only [Act.put,List.setIfInBounds_toArray,List.set_cons_zero,List.set_cons_succ])
                refine wpAnyH_take (i:=26) (oi:={ dst:=some 68,op:=_,type:=_,pos:=_,after:=_,guard:=_ }) (v:=undef) rfl (by kernel_rfl) (by kernel_rfl) (by kernel_rfl) (fun _ _ _ h=>h) (Or.inr ⟨by rfl,rfl⟩) (by assumption) ?_
                (try simp only [Act.put,List.setIfInBounds_toArray,List.set_cons_zero,List.set_cons_succ])
                refine wpAnyH_take (i:=27) (oi:={ dst:=some 69,op:=_,type:=_,pos:=_,after:=_,guard:=_ }) (v:=undef) rfl (by kernel_rfl) (by kernel_rfl) (by kernel_rfl) (fun _ _ _ h=>h) (Or.inr ⟨by rfl,rfl⟩) (by assumption) ?_
                (try simp only [Act.put,List.setIfInBounds_toArray,List.set_cons_zero,List.set_cons_succ])
                refine wpAnyH_take (i:=28) (oi:={ dst:=some 70,op:=_,type:=_,pos:=_,after:=_,guard:=_ }) (v:=undef) rfl (by kernel_rfl) (by kernel_rfl) (by kernel_rfl) (fun _ _ _ h=>h) (Or.inr ⟨by rfl,rfl⟩) (by assumption) ?_
                (try simp only [Act.put,List.setIfInBounds_toArray,List.set_cons_zero,List.set_cons_succ])
                refine wpAnyH_take (i:=29) (oi:={ dst:=some 71,op:=_,type:=_,pos:=_,after:=_,guard:=_ }) (v:=undef) rfl (by kernel_rfl) (by kernel_rfl) (by kernel_rfl) (fun _ _ _ h=>h) (Or.inr ⟨by rfl,rfl⟩) (by assumption) ?_
                (try simp only [Act.put,List.setIfInBounds_toArray,List.set_cons_zero,List.set_cons_succ])
                refine wpAnyH_take (i:=30) (oi:={ dst:=some 72,op:=_,type:=_,pos:=_,after:=_,guard:=_ }) (v:=.bool false) rfl (by kernel_rfl) (by kernel_rfl) (by kernel_rfl) (fun _ _ _ h=>h) (Or.inl ⟨by rfl,fun w hSw=>by obtain ⟨y0,y1,y2,y3⟩:=hSw;first | (go_simp;done) | go_simp⟩) (by assumption) ?_
                (try simp only [Act.put,List.setIfInBounds_toArray,List.set_cons_zero,List.set_cons_succ])
                refine wpAnyH_take (i:=31) (oi:={ dst:=some 73,op:=_,type:=_,pos:=_,after:=_,guard:=_ }) (v:=.bool false) rfl (by kernel_rfl) (by kernel_rfl) (by kernel_rfl) (fun _ _ _ h=>h) (Or.inl ⟨by rfl,fun w hSw=>by obtain ⟨y0,y1,y2,y3⟩:=hSw;first | (go_simp;done) | go_simp⟩) (by assumption) ?_
                (try simp only [Act.put,List.setIfInBounds_toArray,List.set_cons_zero,List.set_cons_succ])
                refine wpAnyH_take (i:=32) (oi:={ dst:=some 74,op:=_,type:=_,pos:=_,after:=_,guard:=_ }) (v:=.bool false) rfl (by kernel_rfl) (by kernel_rfl) (by kernel_rfl) (fun _ _ _ h=>h) (Or.inl ⟨by rfl,fun w hSw=>by obtain ⟨y0,y1,y2,y3⟩:=hSw;first | (go_simp;done) | go_simp⟩) (by assumption) ?_
                (try simp only [Act.put,List.setIfInBounds_toArray,List.set_cons_zero,List.set_cons_succ])
                refine wpAnyH_take (i:=33) (oi:={ dst:=some 75,op:=_,type:=_,pos:=_,after:=_,guard:=_ }) (v:=.pointer (some ⟨XB,3,none⟩)) rfl (by kernel_rfl) (by kernel_rfl) (by kernel_rfl) (fun _ _ _ h=>h) (Or.inl ⟨by rfl,fun w hSw=>by obtain ⟨y0,y1,y2,y3⟩:=hSw;first | (go_simp;done) | go_simp⟩) (by assumption) ?_
                (try simp only [Act.put,List.setIfInBounds_toArray,List.set_cons_zero,List.set_cons_succ])
                refine wpAnyH_take (i:=34) (oi:={ dst:=some 76,op:=_,type:=_,pos:=_,after:=_,guard:=_ }) (v:=.int .u8 (x2:Int)) rfl (by kernel_rfl) (by kernel_rfl) (by kernel_rfl) (fun _ _ _ h=>h) (Or.inl ⟨by rfl,fun w hSw=>by obtain ⟨y0,y1,y2,y3⟩:=hSw;first | (go_simp;done) | go_simp⟩) (by assumption) ?_
                (try simp only [Act.put,List.setIfInBounds_toArray,List.set_cons_zero,List.set_cons_succ])
                refine wpAnyH_take (i:=35) (oi:={ dst:=some 77,op:=_,type:=_,pos:=_,after:=_,guard:=_ }) (v:=.bool false) rfl (by kernel_rfl) (by kernel_rfl) (by kernel_rfl) (fun _ _ _ h=>h) (Or.inl ⟨by rfl,fun w hSw=>by obtain ⟨y0,y1,y2,y3⟩:=hSw;first | (go_simp;done) | go_simp⟩) (by assumption) ?_
                (try simp only [Act.put,List.setIfInBounds_toArray,List.set_cons_zero,List.set_cons_succ])
                refine wpAnyH_take (i:=36) (oi:={ dst:=some 78,op:=_,type:=_,pos:=_,after:=_,guard:=_ }) (v:=.bool false) rfl (by kernel_rfl) (by kernel_rfl) (by kernel_rfl) (fun _ _ _ h=>h) (Or.inl ⟨by rfl,fun w hSw=>by obtain ⟨y0,y1,y2,y3⟩:=hSw;first | (go_simp;done) | go_simp⟩) (by assumption) ?_
                (try simp only [Act.put,List.setIfInBounds_toArray,List.set_cons_zero,List.set_cons_succ])
                refine wpAnyH_done (by kernel_rfl) ?_ _
                clear hHeld
                go_upto_region 18 with fail
                generalize hUd:U1.drew=Ud
                have HWd:Hid (Only (fun _=>False) V1 Ud∧Only (fun _=>False) X Ud∧Only (fun _=>False) U1 Ud):=by rw [← hUd];exact ⟨HX1.out.1.drew,HX1.out.2.drew,(Only.refl _ _).drew⟩
                clear hUd a0' a1' a2' a3' aL' r0 r1 k0 k1 k2 k3 k4 k5 l5 l6 cO1
                go_wp2_with fail
                go_loopg [13] (x - q) (fun gh v13 wr=>∃ (kk:Nat) (Z:World),Z=wr∧gh=x+1 - kk∧q < kk∧kk≤x+1∧v13=.int .i64 (kk:Int)∧Only (fun _=>False) Ud Z)
                case atStart=>exact ⟨q+1,_,rfl,by omega,by omega,by omega,by go_num,(Only.refl _ _)⟩
                case round =>
                  obtain ⟨kk,Z,hZ,rfl,hkk1,hkk2,rfl,hoZ⟩:=hrel
                  subst hZ
                  have HZ:Hid (Only (fun _=>False) V1 Z∧Only (fun _=>False) X Z∧Only (fun _=>False) U1 Z∧Only (fun _=>False) Ud Z):=⟨HWd.out.1.trans hoZ,HWd.out.2.1.trans hoZ,HWd.out.2.2.trans hoZ,hoZ⟩
                  clear hoZ
                  obtain ⟨b0',b1',b2',b3',bL'⟩:=HXC.out Z HZ.out.2.2.1
                  by_cases hkx:kk≤x
                  · have u1:(kk:Int)≤(x:Int):=by omega
                    have u2:(kk:Int) < (k:Int)+1:=by omega
                    have u3:kk < k+1:=by omega
                    obtain ⟨e2,hO2,hD2⟩:=getD_some (O:=O) (k:=kk) (by rw [HOL.out.1];omega)
                    have he2:e2 < 4:=HO4.out e2 (List.mem_of_getElem? hO2)
                    obtain ⟨v1,hv1⟩:∃ y,y=Sp.wde C T1 q kk e2:=⟨_,rfl⟩
                    have hv1s:v1≤66001:=by rw [hv1];exact Sp.wde_small (HPv.out X (Only.refl _ _)).ok ht0 ht1 (by omega)
                    have HC1:Hid (∀ W',Only (fun _=>False) X W'→Calls Try.prog 16 #[.agg #[.slice aC k cC,.slice (some ⟨bo,oo,none⟩) (k+1) cO],.int .i64 (q:Int),.int .i64 (kk:Int),.int .u8 (e2:Int),.int .i64 (T1:Int)] W' fun e w'=>e=.returned (.int .i64 (v1:Int))∧Only (fun _=>False) W' w'):=fun W' ho=>by rw [hv1,wde_cel];exact cells_any C O k (k+1) aC _ cC cO q kk T1 e2 W' (HPv.out W' ho) (by omega) (by omega) ht0 (by omega) (by omega)
                    have HOK:Hid (e2≠0→v1≤W1→Sp.ok C O T1 W1 q kk=true):=fun h1 h2=>(ok_tf hD2).2.1 h1 (by rw [← hv1];exact h2)
                    have HS7:Hid (∀ W',Only (fun _=>False) X W'→((W'.cell? ⟨B5,0,none⟩=some (.slice aC k cC)∧W'.cell? ⟨B5,1,none⟩=some (.slice (some ⟨bo,oo,none⟩) (k+1) cO))∧(W'.cell? ⟨B6,0,none⟩=some (.int .i64 (W1:Int))∧W'.cell? ⟨B6,1,none⟩=some (.int .i64 (T1:Int))))∧W'.cell? ⟨bo,oo+kk,none⟩=some (.int .u8 (e2:Int))):=fun W' ho=>⟨⟨(HPC.out W' ho).1,(HPC.out W' ho).2.1,(HPC.out W' ho).2.2.1⟩,HCO.out W' ho kk e2 hO2⟩
                    clear hO2 hD2 hv1
                    by_cases he0:e2=0
                    · have t4:((e2:Int) != 0)=false:=by simp;omega
                      clear he0
                      go_wp2_with fail
                      refine wp_region_held_drew (S:=(fun W'=>((W'.cell? ⟨B5,0,none⟩=some (.slice aC k cC)∧W'.cell? ⟨B5,1,none⟩=some (.slice (some ⟨bo,oo,none⟩) (k+1) cO))∧(W'.cell? ⟨B6,0,none⟩=some (.int .i64 (W1:Int))∧W'.cell? ⟨B6,1,none⟩=some (.int .i64 (T1:Int))))∧W'.cell? ⟨bo,oo+kk,none⟩=some (.int .u8 (e2:Int)))) (by kernel_rfl) (HS7.out _ HZ.out.2.1.drew) (fun hHeld=>?_)
                      refine wpAnyH_take (i:=0) (oi:={ dst:=some 108,op:=_,type:=_,pos:=_,after:=_,guard:=_ }) (v:=.pointer (some ⟨B5,1,none⟩)) rfl (by kernel_rfl) (by kernel_rfl) (by kernel_rfl) (fun _ _ _ h=>h) (Or.inl ⟨by rfl,fun w hSw=>by obtain ⟨⟨⟨y0,y1⟩,y2,y3⟩,y4⟩:=hSw;first | (go_simp;done) | go_simp⟩) (by assumption) ?_
                      (try simp only [Act.put,List.setIfInBounds_toArray,List.set_cons_zero,List.set_cons_succ])
                      refine wpAnyH_take (i:=1) (oi:={ dst:=some 109,op:=_,type:=_,pos:=_,after:=_,guard:=_ }) (v:=.slice (some ⟨bo,oo,none⟩) (k+1) cO) rfl (by kernel_rfl) (by kernel_rfl) (by kernel_rfl) (fun _ _ _ h=>h) (Or.inl ⟨by rfl,fun w hSw=>by obtain ⟨⟨⟨y0,y1⟩,y2,y3⟩,y4⟩:=hSw;first | (go_simp;done) | go_simp⟩) (by assumption) ?_
                      (try simp only [Act.put,List.setIfInBounds_toArray,List.set_cons_zero,List.set_cons_succ])
                      refine wpAnyH_take (i:=2) (oi:={ dst:=some 110,op:=_,type:=_,pos:=_,after:=_,guard:=_ }) (v:=.int .i64 (kk:Int)) rfl (by kernel_rfl) (by kernel_rfl) (by kernel_rfl) (fun _ _ _ h=>h) (Or.inl ⟨by rfl,fun w hSw=>by obtain ⟨⟨⟨y0,y1⟩,y2,y3⟩,y4⟩:=hSw;first | (go_simp;done) | go_simp⟩) (by assumption) ?_
                      (try simp only [Act.put,List.setIfInBounds_toArray,List.set_cons_zero,List.set_cons_succ])
                      refine wpAnyH_take (i:=3) (oi:={ dst:=some 111,op:=_,type:=_,pos:=_,after:=_,guard:=_ }) (v:=.pointer (some ⟨bo,oo+kk,none⟩)) rfl (by kernel_rfl) (by kernel_rfl) (by kernel_rfl) (fun _ _ _ h=>h) (Or.inl ⟨by rfl,fun w hSw=>by obtain ⟨⟨⟨y0,y1⟩,y2,y3⟩,y4⟩:=hSw;first | (go_simp;done) | go_simp⟩) (by assumption) ?_
                      (try simp only [Act.put,List.setIfInBounds_toArray,List.set_cons_zero,List.set_cons_succ])
                      refine wpAnyH_take (i:=4) (oi:={ dst:=some 112,op:=_,type:=_,pos:=_,after:=_,guard:=_ }) (v:=.int .u8 (e2:Int)) rfl (by kernel_rfl) (by kernel_rfl) (by kernel_rfl) (fun _ _ _ h=>h) (Or.inl ⟨by rfl,fun w hSw=>by obtain ⟨⟨⟨y0,y1⟩,y2,y3⟩,y4⟩:=hSw;first | (go_simp;done) | go_simp⟩) (by assumption) ?_
                      (try simp only [Act.put,List.setIfInBounds_toArray,List.set_cons_zero,List.set_cons_succ])
                      refine wpAnyH_take (i:=5) (oi:={ dst:=some 113,op:=_,type:=_,pos:=_,after:=_,guard:=_ }) (v:=.bool false) rfl (by kernel_rfl) (by kernel_rfl) (by kernel_rfl) (fun _ _ _ h=>h) (Or.inl ⟨by rfl,fun w hSw=>by obtain ⟨⟨⟨y0,y1⟩,y2,y3⟩,y4⟩:=hSw;first | (go_simp;done) | go_simp⟩) (by assumption) ?_
                      (try simp only [Act.put,List.setIfInBounds_toArray,List.set_cons_zero,List.set_cons_succ])
                      refine wpAnyH_take (i:=6) (oi:={ dst:=some 114,op:=_,type:=_,pos:=_,after:=_,guard:=_ }) (v:=.bool false) rfl (by kernel_rfl) (by kernel_rfl) (by kernel_rfl) (fun _ _ _ h=>h) (Or.inl ⟨by rfl,fun w hSw=>by obtain ⟨⟨⟨y0,y1⟩,y2,y3⟩,y4⟩:=hSw;first | (go_simp;done) | go_simp⟩) (by assumption) ?_
                      (try simp only [Act.put,List.setIfInBounds_toArray,List.set_cons_zero,List.set_cons_succ])
                      refine wpAnyH_take (i:=7) (oi:={ dst:=some 115,op:=_,type:=_,pos:=_,after:=_,guard:=_ }) (v:=undef) rfl (by kernel_rfl) (by kernel_rfl) (by kernel_rfl) (fun _ _ _ h=>h) (Or.inr ⟨by rfl,rfl⟩) (by assumption) ?_
                      (try simp only [Act.put,List.setIfInBounds_toArray,List.set_cons_zero,List.set_cons_succ])
                      refine wpAnyH_take (i:=8) (oi:={ dst:=some 116,op:=_,type:=_,pos:=_,after:=_,guard:=_ }) (v:=undef) rfl (by kernel_rfl) (by kernel_rfl) (by kernel_rfl) (fun _ _ _ h=>h) (Or.inr ⟨by rfl,rfl⟩) (by assumption) ?_
                      (try simp only [Act.put,List.setIfInBounds_toArray,List.set_cons_zero,List.set_cons_succ])
                      refine wpAnyH_take (i:=9) (oi:={ dst:=some 117,op:=_,type:=_,pos:=_,after:=_,guard:=_ }) (v:=undef) rfl (by kernel_rfl) (by kernel_rfl) (by kernel_rfl) (fun _ _ _ h=>h) (Or.inr ⟨by rfl,rfl⟩) (by assumption) ?_
                      (try simp only [Act.put,List.setIfInBounds_toArray,List.set_cons_zero,List.set_cons_succ])
                      refine wpAnyH_take (i:=10) (oi:={ dst:=some 118,op:=_,type:=_,pos:=_,after:=_,guard:=_ }) (v:=undef) rfl (by kernel_rfl) (by kernel_rfl) (by kernel_rfl) (fun _ _ _ h=>h) (Or.inr ⟨by rfl,rfl⟩) (by assumption) ?_
                      (try simp only [Act.put,List.setIfInBounds_toArray,List.set_cons_zero,List.set_cons_succ])
                      refine wpAnyH_take (i:=11) (oi:={ dst:=some 119,op:=_,type:=_,pos:=_,after:=_,guard:=_ }) (v:=undef) rfl (by kernel_rfl) (by kernel_rfl) (by kernel_rfl) (fun _ _ _ h=>h) (Or.inr ⟨by rfl,rfl⟩) (by assumption) ?_
                      (try simp only [Act.put,List.setIfInBounds_toArray,List.set_cons_zero,List.set_cons_succ])
                      refine wpAnyH_take (i:=12) (oi:={ dst:=some 120,op:=_,type:=_,pos:=_,after:=_,guard:=_ }) (v:=undef) rfl (by kernel_rfl) (by kernel_rfl) (by kernel_rfl) (fun _ _ _ h=>h) (Or.inr ⟨by rfl,rfl⟩) (by assumption) ?_
                      (try simp only [Act.put,List.setIfInBounds_toArray,List.set_cons_zero,List.set_cons_succ])
                      refine wpAnyH_take (i:=13) (oi:={ dst:=some 121,op:=_,type:=_,pos:=_,after:=_,guard:=_ }) (v:=undef) rfl (by kernel_rfl) (by kernel_rfl) (by kernel_rfl) (fun _ _ _ h=>h) (Or.inr ⟨by rfl,rfl⟩) (by assumption) ?_
                      (try simp only [Act.put,List.setIfInBounds_toArray,List.set_cons_zero,List.set_cons_succ])
                      refine wpAnyH_take (i:=14) (oi:={ dst:=some 122,op:=_,type:=_,pos:=_,after:=_,guard:=_ }) (v:=undef) rfl (by kernel_rfl) (by kernel_rfl) (by kernel_rfl) (fun _ _ _ h=>h) (Or.inr ⟨by rfl,rfl⟩) (by assumption) ?_
                      (try simp only [Act.put,List.setIfInBounds_toArray,List.set_cons_zero,List.set_cons_succ])
                      refine wpAnyH_take (i:=15) (oi:={ dst:=some 123,op:=_,type:=_,pos:=_,after:=_,guard:=_ }) (v:=undef) rfl (by kernel_rfl) (by kernel_rfl) (by kernel_rfl) (fun _ _ _ h=>h) (Or.inr ⟨by rfl,rfl⟩) (by assumption) ?_
                      (try simp only [Act.put,List.setIfInBounds_toArray,List.set_cons_zero,List.set_cons_succ])
                      refine wpAnyH_take (i:=16) (oi:={ dst:=some 124,op:=_,type:=_,pos:=_,after:=_,guard:=_ }) (v:=undef) rfl (by kernel_rfl) (by kernel_rfl) (by kernel_rfl) (fun _ _ _ h=>h) (Or.inr ⟨by rfl,rfl⟩) (by assumption) ?_
                      (try simp only [Act.put,List.setIfInBounds_toArray,List.set_cons_zero,List.set_cons_succ])
                      refine wpAnyH_take (i:=17) (oi:={ dst:=some 125,op:=_,type:=_,pos:=_,after:=_,guard:=_ }) (v:=undef) rfl (by kernel_rfl) (by kernel_rfl) (by kernel_rfl) (fun _ _ _ h=>h) (Or.inr ⟨by rfl,rfl⟩) (by assumption) ?_
                      (try simp only [Act.put,List.setIfInBounds_toArray,List.set_cons_zero,List.set_cons_succ])
                      refine wpAnyH_take (i:=18) (oi:={ dst:=some 126,op:=_,type:=_,pos:=_,after:=_,guard:=_ }) (v:=undef) rfl (by kernel_rfl) (by kernel_rfl) (by kernel_rfl) (fun _ _ _ h=>h) (Or.inr ⟨by rfl,rfl⟩) (by assumption) ?_
                      (try simp only [Act.put,List.setIfInBounds_toArray,List.set_cons_zero,List.set_cons_succ])
                      refine wpAnyH_take (i:=19) (oi:={ dst:=some 127,op:=_,type:=_,pos:=_,after:=_,guard:=_ }) (v:=undef) rfl (by kernel_rfl) (by kernel_rfl) (by kernel_rfl) (fun _ _ _ h=>h) (Or.inr ⟨by rfl,rfl⟩) (by assumption) ?_
                      (try simp only [Act.put,List.setIfInBounds_toArray,List.set_cons_zero,List.set_cons_succ])
                      refine wpAnyH_take (i:=20) (oi:={ dst:=some 128,op:=_,type:=_,pos:=_,after:=_,guard:=_ }) (v:=undef) rfl (by kernel_rfl) (by kernel_rfl) (by kernel_rfl) (fun _ _ _ h=>h) (Or.inr ⟨by rfl,rfl⟩) (by assumption) ?_
                      (try simp only [Act.put,List.setIfInBounds_toArray,List.set_cons_zero,List.set_cons_succ])
                      refine wpAnyH_take (i:=21) (oi:={ dst:=some 129,op:=_,type:=_,pos:=_,after:=_,guard:=_ }) (v:=.bool false) rfl (by kernel_rfl) (by kernel_rfl) (by kernel_rfl) (fun _ _ _ h=>h) (Or.inl ⟨by rfl,fun w hSw=>by obtain ⟨⟨⟨y0,y1⟩,y2,y3⟩,y4⟩:=hSw;first | (go_simp;done) | go_simp⟩) (by assumption) ?_
                      (try simp only [Act.put,List.setIfInBounds_toArray,List.set_cons_zero,List.set_cons_succ])
                      refine wpAnyH_take (i:=22) (oi:={ dst:=some 14,op:=_,type:=_,pos:=_,after:=_,guard:=_ }) (v:=.bool false) rfl (by kernel_rfl) (by kernel_rfl) (by kernel_rfl) (fun _ _ _ h=>h) (Or.inl ⟨by rfl,fun w hSw=>by obtain ⟨⟨⟨y0,y1⟩,y2,y3⟩,y4⟩:=hSw;first | (go_simp;done) | go_simp⟩) (by assumption) ?_
                      (try simp only [Act.put,List.setIfInBounds_toArray,List.set_cons_zero,List.set_cons_succ])
                      refine wpAnyH_done (by kernel_rfl) ?_ _
                      clear hHeld
                      go_wp2_with fail
                      go_roundg (x+1 - (kk+1))
                      case measure=>omega
                      case rel=>exact ⟨kk+1,_,rfl,rfl,by omega,by omega,by go_num,HZ.out.2.2.2.drew⟩
                    · have t4:((e2:Int) != 0)=true:=by simp;omega
                      by_cases hw1:v1≤W1
                      · have t5:(v1:Int)≤(W1:Int):=by omega
                        have hsy:=HSY.out.1.1 kk hkk1 hkx (HOK.out he0 hw1)
                        exact absurd (HSY.out.1.2 x1) (by have h1:=hsy.1;have h2:=H24.out;omega)
                      · have t5:decide ((v1:Int)≤(W1:Int))=false:=decide_eq_false (by omega)
                        clear he0
                        go_wp2_with fail
                        refine wp_region_held_drew (S:=(fun W'=>((W'.cell? ⟨B5,0,none⟩=some (.slice aC k cC)∧W'.cell? ⟨B5,1,none⟩=some (.slice (some ⟨bo,oo,none⟩) (k+1) cO))∧(W'.cell? ⟨B6,0,none⟩=some (.int .i64 (W1:Int))∧W'.cell? ⟨B6,1,none⟩=some (.int .i64 (T1:Int))))∧W'.cell? ⟨bo,oo+kk,none⟩=some (.int .u8 (e2:Int)))) (by kernel_rfl) (HS7.out _ HZ.out.2.1.drew) (fun hHeld=>?_)
                        refine wpAnyH_take (i:=0) (oi:={ dst:=some 108,op:=_,type:=_,pos:=_,after:=_,guard:=_ }) (v:=.pointer (some ⟨B5,1,none⟩)) rfl (by kernel_rfl) (by kernel_rfl) (by kernel_rfl) (fun _ _ _ h=>h) (Or.inl ⟨by rfl,fun w hSw=>by obtain ⟨⟨⟨y0,y1⟩,y2,y3⟩,y4⟩:=hSw;first | (go_simp;done) | go_simp⟩) (by assumption) ?_
                        (try simp only [Act.put,List.setIfInBounds_toArray,List.set_cons_zero,List.set_cons_succ])
                        refine wpAnyH_take (i:=1) (oi:={ dst:=some 109,op:=_,type:=_,pos:=_,after:=_,guard:=_ }) (v:=.slice (some ⟨bo,oo,none⟩) (k+1) cO) rfl (by kernel_rfl) (by kernel_rfl) (by kernel_rfl) (fun _ _ _ h=>h) (Or.inl ⟨by rfl,fun w hSw=>by obtain ⟨⟨⟨y0,y1⟩,y2,y3⟩,y4⟩:=hSw;first | (go_simp;done) | go_simp⟩) (by assumption) ?_
                        (try simp only [Act.put,List.setIfInBounds_toArray,List.set_cons_zero,List.set_cons_succ])
                        refine wpAnyH_take (i:=2) (oi:={ dst:=some 110,op:=_,type:=_,pos:=_,after:=_,guard:=_ }) (v:=.int .i64 (kk:Int)) rfl (by kernel_rfl) (by kernel_rfl) (by kernel_rfl) (fun _ _ _ h=>h) (Or.inl ⟨by rfl,fun w hSw=>by obtain ⟨⟨⟨y0,y1⟩,y2,y3⟩,y4⟩:=hSw;first | (go_simp;done) | go_simp⟩) (by assumption) ?_
                        (try simp only [Act.put,List.setIfInBounds_toArray,List.set_cons_zero,List.set_cons_succ])
                        refine wpAnyH_take (i:=3) (oi:={ dst:=some 111,op:=_,type:=_,pos:=_,after:=_,guard:=_ }) (v:=.pointer (some ⟨bo,oo+kk,none⟩)) rfl (by kernel_rfl) (by kernel_rfl) (by kernel_rfl) (fun _ _ _ h=>h) (Or.inl ⟨by rfl,fun w hSw=>by obtain ⟨⟨⟨y0,y1⟩,y2,y3⟩,y4⟩:=hSw;first | (go_simp;done) | go_simp⟩) (by assumption) ?_
                        (try simp only [Act.put,List.setIfInBounds_toArray,List.set_cons_zero,List.set_cons_succ])
                        refine wpAnyH_take (i:=4) (oi:={ dst:=some 112,op:=_,type:=_,pos:=_,after:=_,guard:=_ }) (v:=.int .u8 (e2:Int)) rfl (by kernel_rfl) (by kernel_rfl) (by kernel_rfl) (fun _ _ _ h=>h) (Or.inl ⟨by rfl,fun w hSw=>by obtain ⟨⟨⟨y0,y1⟩,y2,y3⟩,y4⟩:=hSw;first | (go_simp;done) | go_simp⟩) (by assumption) ?_
                        (try simp only [Act.put,List.setIfInBounds_toArray,List.set_cons_zero,List.set_cons_succ])
                        refine wpAnyH_take (i:=5) (oi:={ dst:=some 113,op:=_,type:=_,pos:=_,after:=_,guard:=_ }) (v:=.bool true) rfl (by kernel_rfl) (by kernel_rfl) (by kernel_rfl) (fun _ _ _ h=>h) (Or.inl ⟨by rfl,fun w hSw=>by obtain ⟨⟨⟨y0,y1⟩,y2,y3⟩,y4⟩:=hSw;first | (go_simp;done) | go_simp⟩) (by assumption) ?_
                        (try simp only [Act.put,List.setIfInBounds_toArray,List.set_cons_zero,List.set_cons_succ])
                        refine wpAnyH_take (i:=6) (oi:={ dst:=some 114,op:=_,type:=_,pos:=_,after:=_,guard:=_ }) (v:=.bool true) rfl (by kernel_rfl) (by kernel_rfl) (by kernel_rfl) (fun _ _ _ h=>h) (Or.inl ⟨by rfl,fun w hSw=>by obtain ⟨⟨⟨y0,y1⟩,y2,y3⟩,y4⟩:=hSw;first | (go_simp;done) | go_simp⟩) (by assumption) ?_
                        (try simp only [Act.put,List.setIfInBounds_toArray,List.set_cons_zero,List.set_cons_succ])
                        refine wpAnyH_take (i:=7) (oi:={ dst:=some 115,op:=_,type:=_,pos:=_,after:=_,guard:=_ }) (v:=.agg #[.slice aC k cC,.slice (some ⟨bo,oo,none⟩) (k+1) cO]) rfl (by kernel_rfl) (by kernel_rfl) (by kernel_rfl) (fun _ _ _ h=>h) (Or.inl ⟨by rfl,fun w hSw=>by obtain ⟨⟨⟨y0,y1⟩,y2,y3⟩,y4⟩:=hSw;first | (go_simp;done) | go_simp⟩) (by assumption) ?_
                        (try simp only [Act.put,List.setIfInBounds_toArray,List.set_cons_zero,List.set_cons_succ])
                        refine wpAnyH_take (i:=8) (oi:={ dst:=some 116,op:=_,type:=_,pos:=_,after:=_,guard:=_ }) (v:=.int .i64 (q:Int)) rfl (by kernel_rfl) (by kernel_rfl) (by kernel_rfl) (fun _ _ _ h=>h) (Or.inl ⟨by rfl,fun w hSw=>by obtain ⟨⟨⟨y0,y1⟩,y2,y3⟩,y4⟩:=hSw;first | (go_simp;done) | go_simp⟩) (by assumption) ?_
                        (try simp only [Act.put,List.setIfInBounds_toArray,List.set_cons_zero,List.set_cons_succ])
                        refine wpAnyH_take (i:=9) (oi:={ dst:=some 117,op:=_,type:=_,pos:=_,after:=_,guard:=_ }) (v:=.int .i64 (kk:Int)) rfl (by kernel_rfl) (by kernel_rfl) (by kernel_rfl) (fun _ _ _ h=>h) (Or.inl ⟨by rfl,fun w hSw=>by obtain ⟨⟨⟨y0,y1⟩,y2,y3⟩,y4⟩:=hSw;first | (go_simp;done) | go_simp⟩) (by assumption) ?_
                        (try simp only [Act.put,List.setIfInBounds_toArray,List.set_cons_zero,List.set_cons_succ])
                        refine wpAnyH_take (i:=10) (oi:={ dst:=some 118,op:=_,type:=_,pos:=_,after:=_,guard:=_ }) (v:=.pointer (some ⟨B5,1,none⟩)) rfl (by kernel_rfl) (by kernel_rfl) (by kernel_rfl) (fun _ _ _ h=>h) (Or.inl ⟨by rfl,fun w hSw=>by obtain ⟨⟨⟨y0,y1⟩,y2,y3⟩,y4⟩:=hSw;first | (go_simp;done) | go_simp⟩) (by assumption) ?_
                        (try simp only [Act.put,List.setIfInBounds_toArray,List.set_cons_zero,List.set_cons_succ])
                        refine wpAnyH_take (i:=11) (oi:={ dst:=some 119,op:=_,type:=_,pos:=_,after:=_,guard:=_ }) (v:=.slice (some ⟨bo,oo,none⟩) (k+1) cO) rfl (by kernel_rfl) (by kernel_rfl) (by kernel_rfl) (fun _ _ _ h=>h) (Or.inl ⟨by rfl,fun w hSw=>by obtain ⟨⟨⟨y0,y1⟩,y2,y3⟩,y4⟩:=hSw;first | (go_simp;done) | go_simp⟩) (by assumption) ?_
                        (try simp only [Act.put,List.setIfInBounds_toArray,List.set_cons_zero,List.set_cons_succ])
                        refine wpAnyH_take (i:=12) (oi:={ dst:=some 120,op:=_,type:=_,pos:=_,after:=_,guard:=_ }) (v:=.int .i64 (kk:Int)) rfl (by kernel_rfl) (by kernel_rfl) (by kernel_rfl) (fun _ _ _ h=>h) (Or.inl ⟨by rfl,fun w hSw=>by obtain ⟨⟨⟨y0,y1⟩,y2,y3⟩,y4⟩:=hSw;first | (go_simp;done) | go_simp⟩) (by assumption) ?_
                        (try simp only [Act.put,List.setIfInBounds_toArray,List.set_cons_zero,List.set_cons_succ])
                        refine wpAnyH_take (i:=13) (oi:={ dst:=some 121,op:=_,type:=_,pos:=_,after:=_,guard:=_ }) (v:=.pointer (some ⟨bo,oo+kk,none⟩)) rfl (by kernel_rfl) (by kernel_rfl) (by kernel_rfl) (fun _ _ _ h=>h) (Or.inl ⟨by rfl,fun w hSw=>by obtain ⟨⟨⟨y0,y1⟩,y2,y3⟩,y4⟩:=hSw;first | (go_simp;done) | go_simp⟩) (by assumption) ?_
                        (try simp only [Act.put,List.setIfInBounds_toArray,List.set_cons_zero,List.set_cons_succ])
                        refine wpAnyH_take (i:=14) (oi:={ dst:=some 122,op:=_,type:=_,pos:=_,after:=_,guard:=_ }) (v:=.int .u8 (e2:Int)) rfl (by kernel_rfl) (by kernel_rfl) (by kernel_rfl) (fun _ _ _ h=>h) (Or.inl ⟨by rfl,fun w hSw=>by obtain ⟨⟨⟨y0,y1⟩,y2,y3⟩,y4⟩:=hSw;first | (go_simp;done) | go_simp⟩) (by assumption) ?_
                        (try simp only [Act.put,List.setIfInBounds_toArray,List.set_cons_zero,List.set_cons_succ])
                        refine wpAnyH_take (i:=15) (oi:={ dst:=some 123,op:=_,type:=_,pos:=_,after:=_,guard:=_ }) (v:=.pointer (some ⟨B6,1,none⟩)) rfl (by kernel_rfl) (by kernel_rfl) (by kernel_rfl) (fun _ _ _ h=>h) (Or.inl ⟨by rfl,fun w hSw=>by obtain ⟨⟨⟨y0,y1⟩,y2,y3⟩,y4⟩:=hSw;first | (go_simp;done) | go_simp⟩) (by assumption) ?_
                        (try simp only [Act.put,List.setIfInBounds_toArray,List.set_cons_zero,List.set_cons_succ])
                        refine wpAnyH_take (i:=16) (oi:={ dst:=some 124,op:=_,type:=_,pos:=_,after:=_,guard:=_ }) (v:=.int .i64 (T1:Int)) rfl (by kernel_rfl) (by kernel_rfl) (by kernel_rfl) (fun _ _ _ h=>h) (Or.inl ⟨by rfl,fun w hSw=>by obtain ⟨⟨⟨y0,y1⟩,y2,y3⟩,y4⟩:=hSw;first | (go_simp;done) | go_simp⟩) (by assumption) ?_
                        (try simp only [Act.put,List.setIfInBounds_toArray,List.set_cons_zero,List.set_cons_succ])
                        refine wpAnyH_take (i:=18) (oi:={ dst:=some 126,op:=_,type:=_,pos:=_,after:=_,guard:=_ }) (v:=.pointer (some ⟨B6,0,none⟩)) rfl (by kernel_rfl) (by kernel_rfl) (by kernel_rfl) (fun _ _ _ h=>h) (Or.inl ⟨by rfl,fun w hSw=>by obtain ⟨⟨⟨y0,y1⟩,y2,y3⟩,y4⟩:=hSw;first | (go_simp;done) | go_simp⟩) (by assumption) ?_
                        (try simp only [Act.put,List.setIfInBounds_toArray,List.set_cons_zero,List.set_cons_succ])
                        refine wpAnyH_take (i:=19) (oi:={ dst:=some 127,op:=_,type:=_,pos:=_,after:=_,guard:=_ }) (v:=.int .i64 (W1:Int)) rfl (by kernel_rfl) (by kernel_rfl) (by kernel_rfl) (fun _ _ _ h=>h) (Or.inl ⟨by rfl,fun w hSw=>by obtain ⟨⟨⟨y0,y1⟩,y2,y3⟩,y4⟩:=hSw;first | (go_simp;done) | go_simp⟩) (by assumption) ?_
                        (try simp only [Act.put,List.setIfInBounds_toArray,List.set_cons_zero,List.set_cons_succ])
                        refine wpAnyH_ready (rs:=[17]) (by kernel_rfl) (by simp) ?_
                        refine AllReadyH.cons rfl (fun K hK=>?_) AllReadyH.nil
                        rw [if_pos (by rfl)]
                        go_simp
                        refine Calls.mono (HC1.out _ HZ.out.2.1.drew) ?_
                        rintro r w3 ⟨rfl,ho3⟩
                        have H3:Hid (Only (fun _=>False) Ud w3∧Only (fun _=>False) X w3∧Only (fun _=>False) U1 w3):=⟨HZ.out.2.2.2.drew.trans ho3,HZ.out.2.1.drew.trans ho3,HZ.out.2.2.1.drew.trans ho3⟩
                        clear ho3
                        refine hK.out _ _ (HS7.out _ H3.out.2.1) (fun hHeld=>?_)
                        clear hK
                        (try simp only [Act.put,List.setIfInBounds_toArray,List.set_cons_zero,List.set_cons_succ])
                        refine wpAnyH_take (i:=20) (oi:={ dst:=some 128,op:=_,type:=_,pos:=_,after:=_,guard:=_ }) (v:=.bool false) rfl (by kernel_rfl) (by kernel_rfl) (by kernel_rfl) (fun _ _ _ h=>h) (Or.inl ⟨by rfl,fun w hSw=>by obtain ⟨⟨⟨y0,y1⟩,y2,y3⟩,y4⟩:=hSw;first | (go_simp;done) | go_simp⟩) (by assumption) ?_
                        (try simp only [Act.put,List.setIfInBounds_toArray,List.set_cons_zero,List.set_cons_succ])
                        refine wpAnyH_take (i:=21) (oi:={ dst:=some 129,op:=_,type:=_,pos:=_,after:=_,guard:=_ }) (v:=.bool false) rfl (by kernel_rfl) (by kernel_rfl) (by kernel_rfl) (fun _ _ _ h=>h) (Or.inl ⟨by rfl,fun w hSw=>by obtain ⟨⟨⟨y0,y1⟩,y2,y3⟩,y4⟩:=hSw;first | (go_simp;done) | go_simp⟩) (by assumption) ?_
                        (try simp only [Act.put,List.setIfInBounds_toArray,List.set_cons_zero,List.set_cons_succ])
                        refine wpAnyH_take (i:=22) (oi:={ dst:=some 14,op:=_,type:=_,pos:=_,after:=_,guard:=_ }) (v:=.bool false) rfl (by kernel_rfl) (by kernel_rfl) (by kernel_rfl) (fun _ _ _ h=>h) (Or.inl ⟨by rfl,fun w hSw=>by obtain ⟨⟨⟨y0,y1⟩,y2,y3⟩,y4⟩:=hSw;first | (go_simp;done) | go_simp⟩) (by assumption) ?_
                        (try simp only [Act.put,List.setIfInBounds_toArray,List.set_cons_zero,List.set_cons_succ])
                        refine wpAnyH_done (by kernel_rfl) ?_ _
                        clear hHeld
                        go_wp2_with fail
                        go_roundg (x+1 - (kk+1))
                        case measure=>omega
                        case rel=>exact ⟨kk+1,_,rfl,rfl,by omega,by omega,by go_num,H3.out.1⟩
                  · have u1:decide ((kk:Int)≤(x:Int))=false:=decide_eq_false (by omega)
                    go_wp2_with fail
                    go_roundg (nL - (j+1))
                    case measure=>omega
                    case rel=>exact ⟨j+1,x1,_,rfl,rfl,by omega,by omega,by omega,rfl,by go_num,HSY.out.2,HZ.out.1⟩
              · as_aux_lemma =>
                have v1':(W1:Int) < (ce:Int):=by omega
                obtain ⟨hq1,htr⟩:=HWD.out (by omega)
                have HTR:Hid (∀ W',Only (fun _=>False) X W'→Calls Try.prog 15 #[.agg #[.slice aC k cC,.slice (some ⟨bo,oo,none⟩) (k+1) cO],.int .i64 (q:Int),.int .i64 (x1:Int)] W' fun e w'=>e=.returned (.int .i64 (x1:Int))∧Only (fun _=>False) W' w'):=fun W' ho=>by
                  have h:=trim_any C O k (k+1) aC _ cC cO q x1 W' (HPv.out W' ho) (by omega) (by omega)
                  rw [show x1 - q=1 by omega,htr,← hq1] at h
                  exact h
                have HQ1:Hid (x1=q+1):=hq1
                clear hq1 htr
                refine wp_region_held_drew (S:=(fun W'=>W'.cell? ⟨XB,0,none⟩=some (.int .i64 (q:Int))∧W'.cell? ⟨XB,1,none⟩=some (.int .i64 (x1:Int))∧W'.cell? ⟨XB,3,none⟩=some (.int .u8 (x2:Int))∧W'.cell? ⟨B5,1,none⟩=some (.slice (some ⟨bo,oo,none⟩) (k+1) cO))) (by kernel_rfl) (⟨(HXC.out _ (Only.refl _ _).drew).1,(HXC.out _ (Only.refl _ _).drew).2.1,(HXC.out _ (Only.refl _ _).drew).2.2.2.1,(HPC.out _ HX1.out.2.drew).1.2⟩) (fun hHeld=>?_)
                refine wpAnyH_take (i:=0) (oi:={ dst:=some 42,op:=_,type:=_,pos:=_,after:=_,guard:=_ }) (v:=.pointer (some ⟨XB,0,none⟩)) rfl (by kernel_rfl) (by kernel_rfl) (by kernel_rfl) (fun _ _ _ h=>h) (Or.inl ⟨by rfl,fun w hSw=>by obtain ⟨y0,y1,y2,y3⟩:=hSw;first | (go_simp;done) | go_simp⟩) (by assumption) ?_
                (try simp only [Act.put,List.setIfInBounds_toArray,List.set_cons_zero,List.set_cons_succ])
                refine wpAnyH_take (i:=1) (oi:={ dst:=some 43,op:=_,type:=_,pos:=_,after:=_,guard:=_ }) (v:=.int .i64 (q:Int)) rfl (by kernel_rfl) (by kernel_rfl) (by kernel_rfl) (fun _ _ _ h=>h) (Or.inl ⟨by rfl,fun w hSw=>by obtain ⟨y0,y1,y2,y3⟩:=hSw;first | (go_simp;done) | go_simp⟩) (by assumption) ?_
                (try simp only [Act.put,List.setIfInBounds_toArray,List.set_cons_zero,List.set_cons_succ])
                refine wpAnyH_take (i:=2) (oi:={ dst:=some 44,op:=_,type:=_,pos:=_,after:=_,guard:=_ }) (v:=.int .i64 (q:Int)) rfl (by kernel_rfl) (by kernel_rfl) (by kernel_rfl) (fun _ _ _ h=>h) (Or.inl ⟨by rfl,fun w hSw=>by obtain ⟨y0,y1,y2,y3⟩:=hSw;first | (go_simp;done) | go_simp⟩) (by assumption) ?_
                (try simp only [Act.put,List.setIfInBounds_toArray,List.set_cons_zero,List.set_cons_succ])
                refine wpAnyH_take (i:=3) (oi:={ dst:=some 45,op:=_,type:=_,pos:=_,after:=_,guard:=_ }) (v:=.bool false) rfl (by kernel_rfl) (by kernel_rfl) (by kernel_rfl) (fun _ _ _ h=>h) (Or.inl ⟨by rfl,fun w hSw=>by obtain ⟨y0,y1,y2,y3⟩:=hSw;first | (go_simp;done) | go_simp⟩) (by assumption) ?_
                (try simp only [Act.put,List.setIfInBounds_toArray,List.set_cons_zero,List.set_cons_succ])
                refine wpAnyH_take (i:=4) (oi:={ dst:=some 46,op:=_,type:=_,pos:=_,after:=_,guard:=_ }) (v:=.bool false) rfl (by kernel_rfl) (by kernel_rfl) (by kernel_rfl) (fun _ _ _ h=>h) (Or.inl ⟨by rfl,fun w hSw=>by obtain ⟨y0,y1,y2,y3⟩:=hSw;first | (go_simp;done) | go_simp⟩) (by assumption) ?_
                (try simp only [Act.put,List.setIfInBounds_toArray,List.set_cons_zero,List.set_cons_succ])
                refine wpAnyH_take (i:=5) (oi:={ dst:=some 47,op:=_,type:=_,pos:=_,after:=_,guard:=_ }) (v:=.pointer (some ⟨XB,1,none⟩)) rfl (by kernel_rfl) (by kernel_rfl) (by kernel_rfl) (fun _ _ _ h=>h) (Or.inl ⟨by rfl,fun w hSw=>by obtain ⟨y0,y1,y2,y3⟩:=hSw;first | (go_simp;done) | go_simp⟩) (by assumption) ?_
                (try simp only [Act.put,List.setIfInBounds_toArray,List.set_cons_zero,List.set_cons_succ])
                refine wpAnyH_take (i:=6) (oi:={ dst:=some 48,op:=_,type:=_,pos:=_,after:=_,guard:=_ }) (v:=.int .i64 (x1:Int)) rfl (by kernel_rfl) (by kernel_rfl) (by kernel_rfl) (fun _ _ _ h=>h) (Or.inl ⟨by rfl,fun w hSw=>by obtain ⟨y0,y1,y2,y3⟩:=hSw;first | (go_simp;done) | go_simp⟩) (by assumption) ?_
                (try simp only [Act.put,List.setIfInBounds_toArray,List.set_cons_zero,List.set_cons_succ])
                refine wpAnyH_take (i:=7) (oi:={ dst:=some 49,op:=_,type:=_,pos:=_,after:=_,guard:=_ }) (v:=.int .i64 (q:Int)) rfl (by kernel_rfl) (by kernel_rfl) (by kernel_rfl) (fun _ _ _ h=>h) (Or.inl ⟨by rfl,fun w hSw=>by obtain ⟨y0,y1,y2,y3⟩:=hSw;first | (go_simp;done) | go_simp⟩) (by assumption) ?_
                (try simp only [Act.put,List.setIfInBounds_toArray,List.set_cons_zero,List.set_cons_succ])
                refine wpAnyH_take (i:=8) (oi:={ dst:=some 50,op:=_,type:=_,pos:=_,after:=_,guard:=_ }) (v:=.bool false) rfl (by kernel_rfl) (by kernel_rfl) (by kernel_rfl) (fun _ _ _ h=>h) (Or.inl ⟨by rfl,fun w hSw=>by obtain ⟨y0,y1,y2,y3⟩:=hSw;first | (go_simp;done) | go_simp⟩) (by assumption) ?_
                (try simp only [Act.put,List.setIfInBounds_toArray,List.set_cons_zero,List.set_cons_succ])
                refine wpAnyH_take (i:=9) (oi:={ dst:=some 51,op:=_,type:=_,pos:=_,after:=_,guard:=_ }) (v:=.bool false) rfl (by kernel_rfl) (by kernel_rfl) (by kernel_rfl) (fun _ _ _ h=>h) (Or.inl ⟨by rfl,fun w hSw=>by obtain ⟨y0,y1,y2,y3⟩:=hSw;first | (go_simp;done) | go_simp⟩) (by assumption) ?_
                (try simp only [Act.put,List.setIfInBounds_toArray,List.set_cons_zero,List.set_cons_succ])
                refine wpAnyH_take (i:=10) (oi:={ dst:=some 52,op:=_,type:=_,pos:=_,after:=_,guard:=_ }) (v:=.bool false) rfl (by kernel_rfl) (by kernel_rfl) (by kernel_rfl) (fun _ _ _ h=>h) (Or.inl ⟨by rfl,fun w hSw=>by obtain ⟨y0,y1,y2,y3⟩:=hSw;first | (go_simp;done) | go_simp⟩) (by assumption) ?_
                (try simp only [Act.put,List.setIfInBounds_toArray,List.set_cons_zero,List.set_cons_succ])
                refine wpAnyH_take (i:=11) (oi:={ dst:=some 53,op:=_,type:=_,pos:=_,after:=_,guard:=_ }) (v:=.pointer (some ⟨XB,1,none⟩)) rfl (by kernel_rfl) (by kernel_rfl) (by kernel_rfl) (fun _ _ _ h=>h) (Or.inl ⟨by rfl,fun w hSw=>by obtain ⟨y0,y1,y2,y3⟩:=hSw;first | (go_simp;done) | go_simp⟩) (by assumption) ?_
                (try simp only [Act.put,List.setIfInBounds_toArray,List.set_cons_zero,List.set_cons_succ])
                refine wpAnyH_take (i:=12) (oi:={ dst:=some 54,op:=_,type:=_,pos:=_,after:=_,guard:=_ }) (v:=.int .i64 (x1:Int)) rfl (by kernel_rfl) (by kernel_rfl) (by kernel_rfl) (fun _ _ _ h=>h) (Or.inl ⟨by rfl,fun w hSw=>by obtain ⟨y0,y1,y2,y3⟩:=hSw;first | (go_simp;done) | go_simp⟩) (by assumption) ?_
                (try simp only [Act.put,List.setIfInBounds_toArray,List.set_cons_zero,List.set_cons_succ])
                refine wpAnyH_take (i:=13) (oi:={ dst:=some 55,op:=_,type:=_,pos:=_,after:=_,guard:=_ }) (v:=.int .i64 (x:Int)) rfl (by kernel_rfl) (by kernel_rfl) (by kernel_rfl) (fun _ _ _ h=>h) (Or.inl ⟨by rfl,fun w hSw=>by obtain ⟨y0,y1,y2,y3⟩:=hSw;first | (go_simp;done) | go_simp⟩) (by assumption) ?_
                (try simp only [Act.put,List.setIfInBounds_toArray,List.set_cons_zero,List.set_cons_succ])
                refine wpAnyH_take (i:=14) (oi:={ dst:=some 56,op:=_,type:=_,pos:=_,after:=_,guard:=_ }) (v:=.bool false) rfl (by kernel_rfl) (by kernel_rfl) (by kernel_rfl) (fun _ _ _ h=>h) (Or.inl ⟨by rfl,fun w hSw=>by obtain ⟨y0,y1,y2,y3⟩:=hSw;first | (go_simp;done) | go_simp⟩) (by assumption) ?_
                (try simp only [Act.put,List.setIfInBounds_toArray,List.set_cons_zero,List.set_cons_succ])
                refine wpAnyH_take (i:=15) (oi:={ dst:=some 57,op:=_,type:=_,pos:=_,after:=_,guard:=_ }) (v:=.bool false) rfl (by kernel_rfl) (by kernel_rfl) (by kernel_rfl) (fun _ _ _ h=>h) (Or.inl ⟨by rfl,fun w hSw=>by obtain ⟨y0,y1,y2,y3⟩:=hSw;first | (go_simp;done) | go_simp⟩) (by assumption) ?_
                (try simp only [Act.put,List.setIfInBounds_toArray,List.set_cons_zero,List.set_cons_succ])
                refine wpAnyH_take (i:=16) (oi:={ dst:=some 58,op:=_,type:=_,pos:=_,after:=_,guard:=_ }) (v:=.bool false) rfl (by kernel_rfl) (by kernel_rfl) (by kernel_rfl) (fun _ _ _ h=>h) (Or.inl ⟨by rfl,fun w hSw=>by obtain ⟨y0,y1,y2,y3⟩:=hSw;first | (go_simp;done) | go_simp⟩) (by assumption) ?_
                (try simp only [Act.put,List.setIfInBounds_toArray,List.set_cons_zero,List.set_cons_succ])
                refine wpAnyH_take (i:=17) (oi:={ dst:=some 59,op:=_,type:=_,pos:=_,after:=_,guard:=_ }) (v:=.pointer (some ⟨XB,3,none⟩)) rfl (by kernel_rfl) (by kernel_rfl) (by kernel_rfl) (fun _ _ _ h=>h) (Or.inl ⟨by rfl,fun w hSw=>by obtain ⟨y0,y1,y2,y3⟩:=hSw;first | (go_simp;done) | go_simp⟩) (by assumption) ?_
                (try simp only [Act.put,List.setIfInBounds_toArray,List.set_cons_zero,List.set_cons_succ])
                refine wpAnyH_take (i:=18) (oi:={ dst:=some 60,op:=_,type:=_,pos:=_,after:=_,guard:=_ }) (v:=.int .u8 (x2:Int)) rfl (by kernel_rfl) (by kernel_rfl) (by kernel_rfl) (fun _ _ _ h=>h) (Or.inl ⟨by rfl,fun w hSw=>by obtain ⟨y0,y1,y2,y3⟩:=hSw;first | (go_simp;done) | go_simp⟩) (by assumption) ?_
                (try simp only [Act.put,List.setIfInBounds_toArray,List.set_cons_zero,List.set_cons_succ])
                refine wpAnyH_take (i:=19) (oi:={ dst:=some 61,op:=_,type:=_,pos:=_,after:=_,guard:=_ }) (v:=.bool false) rfl (by kernel_rfl) (by kernel_rfl) (by kernel_rfl) (fun _ _ _ h=>h) (Or.inl ⟨by rfl,fun w hSw=>by obtain ⟨y0,y1,y2,y3⟩:=hSw;first | (go_simp;done) | go_simp⟩) (by assumption) ?_
                (try simp only [Act.put,List.setIfInBounds_toArray,List.set_cons_zero,List.set_cons_succ])
                refine wpAnyH_take (i:=20) (oi:={ dst:=some 62,op:=_,type:=_,pos:=_,after:=_,guard:=_ }) (v:=.bool false) rfl (by kernel_rfl) (by kernel_rfl) (by kernel_rfl) (fun _ _ _ h=>h) (Or.inl ⟨by rfl,fun w hSw=>by obtain ⟨y0,y1,y2,y3⟩:=hSw;first | (go_simp;done) | go_simp⟩) (by assumption) ?_
                (try simp only [Act.put,List.setIfInBounds_toArray,List.set_cons_zero,List.set_cons_succ])
                refine wpAnyH_take (i:=21) (oi:={ dst:=some 63,op:=_,type:=_,pos:=_,after:=_,guard:=_ }) (v:=undef) rfl (by kernel_rfl) (by kernel_rfl) (by kernel_rfl) (fun _ _ _ h=>h) (Or.inr ⟨by rfl,rfl⟩) (by assumption) ?_
                (try simp only [Act.put,List.setIfInBounds_toArray,List.set_cons_zero,List.set_cons_succ])
                refine wpAnyH_take (i:=22) (oi:={ dst:=some 64,op:=_,type:=_,pos:=_,after:=_,guard:=_ }) (v:=undef) rfl (by kernel_rfl) (by kernel_rfl) (by kernel_rfl) (fun _ _ _ h=>h) (Or.inr ⟨by rfl,rfl⟩) (by assumption) ?_
                (try simp only [Act.put,List.setIfInBounds_toArray,List.set_cons_zero,List.set_cons_succ])
                refine wpAnyH_take (i:=23) (oi:={ dst:=some 65,op:=_,type:=_,pos:=_,after:=_,guard:=_ }) (v:=undef) rfl (by kernel_rfl) (by kernel_rfl) (by kernel_rfl) (fun _ _ _ h=>h) (Or.inr ⟨by rfl,rfl⟩) (by assumption) ?_
                (try simp only [Act.put,List.setIfInBounds_toArray,List.set_cons_zero,List.set_cons_succ])
                refine wpAnyH_take (i:=24) (oi:={ dst:=some 66,op:=_,type:=_,pos:=_,after:=_,guard:=_ }) (v:=undef) rfl (by kernel_rfl) (by kernel_rfl) (by kernel_rfl) (fun _ _ _ h=>h) (Or.inr ⟨by rfl,rfl⟩) (by assumption) ?_
                (try simp only [Act.put,List.setIfInBounds_toArray,List.set_cons_zero,List.set_cons_succ])
                refine wpAnyH_take (i:=25) (oi:={ dst:=some 67,op:=_,type:=_,pos:=_,after:=_,guard:=_ }) (v:=undef) rfl (by kernel_rfl) (by kernel_rfl) (by kernel_rfl) (fun _ _ _ h=>h) (Or.inr ⟨by rfl,rfl⟩) (by assumption) ?_
                (try simp only [Act.put,List.setIfInBounds_toArray,List.set_cons_zero,List.set_cons_succ])
                refine wpAnyH_take (i:=26) (oi:={ dst:=some 68,op:=_,type:=_,pos:=_,after:=_,guard:=_ }) (v:=undef) rfl (by kernel_rfl) (by kernel_rfl) (by kernel_rfl) (fun _ _ _ h=>h) (Or.inr ⟨by rfl,rfl⟩) (by assumption) ?_
                (try simp only [Act.put,List.setIfInBounds_toArray,List.set_cons_zero,List.set_cons_succ])
                refine wpAnyH_take (i:=27) (oi:={ dst:=some 69,op:=_,type:=_,pos:=_,after:=_,guard:=_ }) (v:=undef) rfl (by kernel_rfl) (by kernel_rfl) (by kernel_rfl) (fun _ _ _ h=>h) (Or.inr ⟨by rfl,rfl⟩) (by assumption) ?_
                (try simp only [Act.put,List.setIfInBounds_toArray,List.set_cons_zero,List.set_cons_succ])
                refine wpAnyH_take (i:=28) (oi:={ dst:=some 70,op:=_,type:=_,pos:=_,after:=_,guard:=_ }) (v:=undef) rfl (by kernel_rfl) (by kernel_rfl) (by kernel_rfl) (fun _ _ _ h=>h) (Or.inr ⟨by rfl,rfl⟩) (by assumption) ?_
                (try simp only [Act.put,List.setIfInBounds_toArray,List.set_cons_zero,List.set_cons_succ])
                refine wpAnyH_take (i:=29) (oi:={ dst:=some 71,op:=_,type:=_,pos:=_,after:=_,guard:=_ }) (v:=undef) rfl (by kernel_rfl) (by kernel_rfl) (by kernel_rfl) (fun _ _ _ h=>h) (Or.inr ⟨by rfl,rfl⟩) (by assumption) ?_
                (try simp only [Act.put,List.setIfInBounds_toArray,List.set_cons_zero,List.set_cons_succ])
                refine wpAnyH_take (i:=30) (oi:={ dst:=some 72,op:=_,type:=_,pos:=_,after:=_,guard:=_ }) (v:=.bool false) rfl (by kernel_rfl) (by kernel_rfl) (by kernel_rfl) (fun _ _ _ h=>h) (Or.inl ⟨by rfl,fun w hSw=>by obtain ⟨y0,y1,y2,y3⟩:=hSw;first | (go_simp;done) | go_simp⟩) (by assumption) ?_
                (try simp only [Act.put,List.setIfInBounds_toArray,List.set_cons_zero,List.set_cons_succ])
                refine wpAnyH_take (i:=31) (oi:={ dst:=some 73,op:=_,type:=_,pos:=_,after:=_,guard:=_ }) (v:=.bool false) rfl (by kernel_rfl) (by kernel_rfl) (by kernel_rfl) (fun _ _ _ h=>h) (Or.inl ⟨by rfl,fun w hSw=>by obtain ⟨y0,y1,y2,y3⟩:=hSw;first | (go_simp;done) | go_simp⟩) (by assumption) ?_
                (try simp only [Act.put,List.setIfInBounds_toArray,List.set_cons_zero,List.set_cons_succ])
                refine wpAnyH_take (i:=32) (oi:={ dst:=some 74,op:=_,type:=_,pos:=_,after:=_,guard:=_ }) (v:=.bool false) rfl (by kernel_rfl) (by kernel_rfl) (by kernel_rfl) (fun _ _ _ h=>h) (Or.inl ⟨by rfl,fun w hSw=>by obtain ⟨y0,y1,y2,y3⟩:=hSw;first | (go_simp;done) | go_simp⟩) (by assumption) ?_
                (try simp only [Act.put,List.setIfInBounds_toArray,List.set_cons_zero,List.set_cons_succ])
                refine wpAnyH_take (i:=33) (oi:={ dst:=some 75,op:=_,type:=_,pos:=_,after:=_,guard:=_ }) (v:=.pointer (some ⟨XB,3,none⟩)) rfl (by kernel_rfl) (by kernel_rfl) (by kernel_rfl) (fun _ _ _ h=>h) (Or.inl ⟨by rfl,fun w hSw=>by obtain ⟨y0,y1,y2,y3⟩:=hSw;first | (go_simp;done) | go_simp⟩) (by assumption) ?_
                (try simp only [Act.put,List.setIfInBounds_toArray,List.set_cons_zero,List.set_cons_succ])
                refine wpAnyH_take (i:=34) (oi:={ dst:=some 76,op:=_,type:=_,pos:=_,after:=_,guard:=_ }) (v:=.int .u8 (x2:Int)) rfl (by kernel_rfl) (by kernel_rfl) (by kernel_rfl) (fun _ _ _ h=>h) (Or.inl ⟨by rfl,fun w hSw=>by obtain ⟨y0,y1,y2,y3⟩:=hSw;first | (go_simp;done) | go_simp⟩) (by assumption) ?_
                (try simp only [Act.put,List.setIfInBounds_toArray,List.set_cons_zero,List.set_cons_succ])
                refine wpAnyH_take (i:=35) (oi:={ dst:=some 77,op:=_,type:=_,pos:=_,after:=_,guard:=_ }) (v:=.bool false) rfl (by kernel_rfl) (by kernel_rfl) (by kernel_rfl) (fun _ _ _ h=>h) (Or.inl ⟨by rfl,fun w hSw=>by obtain ⟨y0,y1,y2,y3⟩:=hSw;first | (go_simp;done) | go_simp⟩) (by assumption) ?_
                (try simp only [Act.put,List.setIfInBounds_toArray,List.set_cons_zero,List.set_cons_succ])
                refine wpAnyH_take (i:=36) (oi:={ dst:=some 78,op:=_,type:=_,pos:=_,after:=_,guard:=_ }) (v:=.bool false) rfl (by kernel_rfl) (by kernel_rfl) (by kernel_rfl) (fun _ _ _ h=>h) (Or.inl ⟨by rfl,fun w hSw=>by obtain ⟨y0,y1,y2,y3⟩:=hSw;first | (go_simp;done) | go_simp⟩) (by assumption) ?_
                (try simp only [Act.put,List.setIfInBounds_toArray,List.set_cons_zero,List.set_cons_succ])
                refine wpAnyH_done (by kernel_rfl) ?_ _
                clear hHeld
                have v2':(q:Int)+1=(x1:Int):=by have:=HQ1.out;omega
                generalize hUd:U1.drew=Ud0
                have HW0:Hid (Only (fun _=>False) V1 Ud0∧Only (fun _=>False) X Ud0∧Only (fun _=>False) U1 Ud0):=by rw [← hUd];exact ⟨HX1.out.1.drew,HX1.out.2.drew,(Only.refl _ _).drew⟩
                clear hUd a0' a1' a2' a3' aL' r0 r1 k0 k1 k2 k3 k4 k5 l5 l6 cO1
                obtain ⟨a0',a1',a2',a3',aL'⟩:=HXC.out Ud0 HW0.out.2.2
                obtain ⟨⟨r0,r1⟩,k0,k1,k2,k3,k4,k5⟩:=HPC.out Ud0 HW0.out.2.1
                obtain ⟨l5,l6⟩:=HLT.out Ud0 HW0.out.2.1
                go_wp2_with fail
                refine Calls.mono (HTR.out _ HW0.out.2.1) ?_
                rintro e Ud ⟨rfl,hoUd⟩
                have HWd:Hid (Only (fun _=>False) V1 Ud∧Only (fun _=>False) X Ud∧Only (fun _=>False) U1 Ud):=⟨HW0.out.1.trans hoUd,HW0.out.2.1.trans hoUd,HW0.out.2.2.trans hoUd⟩
                clear hoUd a0' a1' a2' a3' aL' r0 r1 k0 k1 k2 k3 k4 k5 l5 l6
                go_upto_region 18 with fail
                clear v2'
                go_wp2_with fail
                go_loopg [13] (x - q) (fun gh v13 wr=>∃ (kk:Nat) (Z:World),Z=wr∧gh=x+1 - kk∧q < kk∧kk≤x+1∧v13=.int .i64 (kk:Int)∧Only (fun _=>False) Ud Z)
                case atStart=>exact ⟨q+1,_,rfl,by omega,by omega,by omega,by go_num,(Only.refl _ _)⟩
                case round =>
                  obtain ⟨kk,Z,hZ,rfl,hkk1,hkk2,rfl,hoZ⟩:=hrel
                  subst hZ
                  have HZ:Hid (Only (fun _=>False) V1 Z∧Only (fun _=>False) X Z∧Only (fun _=>False) U1 Z∧Only (fun _=>False) Ud Z):=⟨HWd.out.1.trans hoZ,HWd.out.2.1.trans hoZ,HWd.out.2.2.trans hoZ,hoZ⟩
                  clear hoZ
                  obtain ⟨b0',b1',b2',b3',bL'⟩:=HXC.out Z HZ.out.2.2.1
                  by_cases hkx:kk≤x
                  · have u1:(kk:Int)≤(x:Int):=by omega
                    have u2:(kk:Int) < (k:Int)+1:=by omega
                    have u3:kk < k+1:=by omega
                    obtain ⟨e2,hO2,hD2⟩:=getD_some (O:=O) (k:=kk) (by rw [HOL.out.1];omega)
                    have he2:e2 < 4:=HO4.out e2 (List.mem_of_getElem? hO2)
                    obtain ⟨v1,hv1⟩:∃ y,y=Sp.wde C T1 q kk e2:=⟨_,rfl⟩
                    have hv1s:v1≤66001:=by rw [hv1];exact Sp.wde_small (HPv.out X (Only.refl _ _)).ok ht0 ht1 (by omega)
                    have HC1:Hid (∀ W',Only (fun _=>False) X W'→Calls Try.prog 16 #[.agg #[.slice aC k cC,.slice (some ⟨bo,oo,none⟩) (k+1) cO],.int .i64 (q:Int),.int .i64 (kk:Int),.int .u8 (e2:Int),.int .i64 (T1:Int)] W' fun e w'=>e=.returned (.int .i64 (v1:Int))∧Only (fun _=>False) W' w'):=fun W' ho=>by rw [hv1,wde_cel];exact cells_any C O k (k+1) aC _ cC cO q kk T1 e2 W' (HPv.out W' ho) (by omega) (by omega) ht0 (by omega) (by omega)
                    have HOK:Hid (e2≠0→v1≤W1→Sp.ok C O T1 W1 q kk=true):=fun h1 h2=>(ok_tf hD2).2.1 h1 (by rw [← hv1];exact h2)
                    have HS7:Hid (∀ W',Only (fun _=>False) X W'→((W'.cell? ⟨B5,0,none⟩=some (.slice aC k cC)∧W'.cell? ⟨B5,1,none⟩=some (.slice (some ⟨bo,oo,none⟩) (k+1) cO))∧(W'.cell? ⟨B6,0,none⟩=some (.int .i64 (W1:Int))∧W'.cell? ⟨B6,1,none⟩=some (.int .i64 (T1:Int))))∧W'.cell? ⟨bo,oo+kk,none⟩=some (.int .u8 (e2:Int))):=fun W' ho=>⟨⟨(HPC.out W' ho).1,(HPC.out W' ho).2.1,(HPC.out W' ho).2.2.1⟩,HCO.out W' ho kk e2 hO2⟩
                    clear hO2 hD2 hv1
                    by_cases he0:e2=0
                    · have t4:((e2:Int) != 0)=false:=by simp;omega
                      clear he0
                      go_wp2_with fail
                      refine wp_region_held_drew (S:=(fun W'=>((W'.cell? ⟨B5,0,none⟩=some (.slice aC k cC)∧W'.cell? ⟨B5,1,none⟩=some (.slice (some ⟨bo,oo,none⟩) (k+1) cO))∧(W'.cell? ⟨B6,0,none⟩=some (.int .i64 (W1:Int))∧W'.cell? ⟨B6,1,none⟩=some (.int .i64 (T1:Int))))∧W'.cell? ⟨bo,oo+kk,none⟩=some (.int .u8 (e2:Int)))) (by kernel_rfl) (HS7.out _ HZ.out.2.1.drew) (fun hHeld=>?_)
                      refine wpAnyH_take (i:=0) (oi:={ dst:=some 108,op:=_,type:=_,pos:=_,after:=_,guard:=_ }) (v:=.pointer (some ⟨B5,1,none⟩)) rfl (by kernel_rfl) (by kernel_rfl) (by kernel_rfl) (fun _ _ _ h=>h) (Or.inl ⟨by rfl,fun w hSw=>by obtain ⟨⟨⟨y0,y1⟩,y2,y3⟩,y4⟩:=hSw;first | (go_simp;done) | go_simp⟩) (by assumption) ?_
                      (try simp only [Act.put,List.setIfInBounds_toArray,List.set_cons_zero,List.set_cons_succ])
                      refine wpAnyH_take (i:=1) (oi:={ dst:=some 109,op:=_,type:=_,pos:=_,after:=_,guard:=_ }) (v:=.slice (some ⟨bo,oo,none⟩) (k+1) cO) rfl (by kernel_rfl) (by kernel_rfl) (by kernel_rfl) (fun _ _ _ h=>h) (Or.inl ⟨by rfl,fun w hSw=>by obtain ⟨⟨⟨y0,y1⟩,y2,y3⟩,y4⟩:=hSw;first | (go_simp;done) | go_simp⟩) (by assumption) ?_
                      (try simp only [Act.put,List.setIfInBounds_toArray,List.set_cons_zero,List.set_cons_succ])
                      refine wpAnyH_take (i:=2) (oi:={ dst:=some 110,op:=_,type:=_,pos:=_,after:=_,guard:=_ }) (v:=.int .i64 (kk:Int)) rfl (by kernel_rfl) (by kernel_rfl) (by kernel_rfl) (fun _ _ _ h=>h) (Or.inl ⟨by rfl,fun w hSw=>by obtain ⟨⟨⟨y0,y1⟩,y2,y3⟩,y4⟩:=hSw;first | (go_simp;done) | go_simp⟩) (by assumption) ?_
                      (try simp only [Act.put,List.setIfInBounds_toArray,List.set_cons_zero,List.set_cons_succ])
                      refine wpAnyH_take (i:=3) (oi:={ dst:=some 111,op:=_,type:=_,pos:=_,after:=_,guard:=_ }) (v:=.pointer (some ⟨bo,oo+kk,none⟩)) rfl (by kernel_rfl) (by kernel_rfl) (by kernel_rfl) (fun _ _ _ h=>h) (Or.inl ⟨by rfl,fun w hSw=>by obtain ⟨⟨⟨y0,y1⟩,y2,y3⟩,y4⟩:=hSw;first | (go_simp;done) | go_simp⟩) (by assumption) ?_
                      (try simp only [Act.put,List.setIfInBounds_toArray,List.set_cons_zero,List.set_cons_succ])
                      refine wpAnyH_take (i:=4) (oi:={ dst:=some 112,op:=_,type:=_,pos:=_,after:=_,guard:=_ }) (v:=.int .u8 (e2:Int)) rfl (by kernel_rfl) (by kernel_rfl) (by kernel_rfl) (fun _ _ _ h=>h) (Or.inl ⟨by rfl,fun w hSw=>by obtain ⟨⟨⟨y0,y1⟩,y2,y3⟩,y4⟩:=hSw;first | (go_simp;done) | go_simp⟩) (by assumption) ?_
                      (try simp only [Act.put,List.setIfInBounds_toArray,List.set_cons_zero,List.set_cons_succ])
                      refine wpAnyH_take (i:=5) (oi:={ dst:=some 113,op:=_,type:=_,pos:=_,after:=_,guard:=_ }) (v:=.bool false) rfl (by kernel_rfl) (by kernel_rfl) (by kernel_rfl) (fun _ _ _ h=>h) (Or.inl ⟨by rfl,fun w hSw=>by obtain ⟨⟨⟨y0,y1⟩,y2,y3⟩,y4⟩:=hSw;first | (go_simp;done) | go_simp⟩) (by assumption) ?_
                      (try simp only [Act.put,List.setIfInBounds_toArray,List.set_cons_zero,List.set_cons_succ])
                      refine wpAnyH_take (i:=6) (oi:={ dst:=some 114,op:=_,type:=_,pos:=_,after:=_,guard:=_ }) (v:=.bool false) rfl (by kernel_rfl) (by kernel_rfl) (by kernel_rfl) (fun _ _ _ h=>h) (Or.inl ⟨by rfl,fun w hSw=>by obtain ⟨⟨⟨y0,y1⟩,y2,y3⟩,y4⟩:=hSw;first | (go_simp;done) | go_simp⟩) (by assumption) ?_
                      (try simp only [Act.put,List.setIfInBounds_toArray,List.set_cons_zero,List.set_cons_succ])
                      refine wpAnyH_take (i:=7) (oi:={ dst:=some 115,op:=_,type:=_,pos:=_,after:=_,guard:=_ }) (v:=undef) rfl (by kernel_rfl) (by kernel_rfl) (by kernel_rfl) (fun _ _ _ h=>h) (Or.inr ⟨by rfl,rfl⟩) (by assumption) ?_
                      (try simp only [Act.put,List.setIfInBounds_toArray,List.set_cons_zero,List.set_cons_succ])
                      refine wpAnyH_take (i:=8) (oi:={ dst:=some 116,op:=_,type:=_,pos:=_,after:=_,guard:=_ }) (v:=undef) rfl (by kernel_rfl) (by kernel_rfl) (by kernel_rfl) (fun _ _ _ h=>h) (Or.inr ⟨by rfl,rfl⟩) (by assumption) ?_
                      (try simp only [Act.put,List.setIfInBounds_toArray,List.set_cons_zero,List.set_cons_succ])
                      refine wpAnyH_take (i:=9) (oi:={ dst:=some 117,op:=_,type:=_,pos:=_,after:=_,guard:=_ }) (v:=undef) rfl (by kernel_rfl) (by kernel_rfl) (by kernel_rfl) (fun _ _ _ h=>h) (Or.inr ⟨by rfl,rfl⟩) (by assumption) ?_
                      (try simp only [Act.put,List.setIfInBounds_toArray,List.set_cons_zero,List.set_cons_succ])
                      refine wpAnyH_take (i:=10) (oi:={ dst:=some 118,op:=_,type:=_,pos:=_,after:=_,guard:=_ }) (v:=undef) rfl (by kernel_rfl) (by kernel_rfl) (by kernel_rfl) (fun _ _ _ h=>h) (Or.inr ⟨by rfl,rfl⟩) (by assumption) ?_
                      (try simp only [Act.put,List.setIfInBounds_toArray,List.set_cons_zero,List.set_cons_succ])
                      refine wpAnyH_take (i:=11) (oi:={ dst:=some 119,op:=_,type:=_,pos:=_,after:=_,guard:=_ }) (v:=undef) rfl (by kernel_rfl) (by kernel_rfl) (by kernel_rfl) (fun _ _ _ h=>h) (Or.inr ⟨by rfl,rfl⟩) (by assumption) ?_
                      (try simp only [Act.put,List.setIfInBounds_toArray,List.set_cons_zero,List.set_cons_succ])
                      refine wpAnyH_take (i:=12) (oi:={ dst:=some 120,op:=_,type:=_,pos:=_,after:=_,guard:=_ }) (v:=undef) rfl (by kernel_rfl) (by kernel_rfl) (by kernel_rfl) (fun _ _ _ h=>h) (Or.inr ⟨by rfl,rfl⟩) (by assumption) ?_
                      (try simp only [Act.put,List.setIfInBounds_toArray,List.set_cons_zero,List.set_cons_succ])
                      refine wpAnyH_take (i:=13) (oi:={ dst:=some 121,op:=_,type:=_,pos:=_,after:=_,guard:=_ }) (v:=undef) rfl (by kernel_rfl) (by kernel_rfl) (by kernel_rfl) (fun _ _ _ h=>h) (Or.inr ⟨by rfl,rfl⟩) (by assumption) ?_
                      (try simp only [Act.put,List.setIfInBounds_toArray,List.set_cons_zero,List.set_cons_succ])
                      refine wpAnyH_take (i:=14) (oi:={ dst:=some 122,op:=_,type:=_,pos:=_,after:=_,guard:=_ }) (v:=undef) rfl (by kernel_rfl) (by kernel_rfl) (by kernel_rfl) (fun _ _ _ h=>h) (Or.inr ⟨by rfl,rfl⟩) (by assumption) ?_
                      (try simp only [Act.put,List.setIfInBounds_toArray,List.set_cons_zero,List.set_cons_succ])
                      refine wpAnyH_take (i:=15) (oi:={ dst:=some 123,op:=_,type:=_,pos:=_,after:=_,guard:=_ }) (v:=undef) rfl (by kernel_rfl) (by kernel_rfl) (by kernel_rfl) (fun _ _ _ h=>h) (Or.inr ⟨by rfl,rfl⟩) (by assumption) ?_
                      (try simp only [Act.put,List.setIfInBounds_toArray,List.set_cons_zero,List.set_cons_succ])
                      refine wpAnyH_take (i:=16) (oi:={ dst:=some 124,op:=_,type:=_,pos:=_,after:=_,guard:=_ }) (v:=undef) rfl (by kernel_rfl) (by kernel_rfl) (by kernel_rfl) (fun _ _ _ h=>h) (Or.inr ⟨by rfl,rfl⟩) (by assumption) ?_
                      (try simp only [Act.put,List.setIfInBounds_toArray,List.set_cons_zero,List.set_cons_succ])
                      refine wpAnyH_take (i:=17) (oi:={ dst:=some 125,op:=_,type:=_,pos:=_,after:=_,guard:=_ }) (v:=undef) rfl (by kernel_rfl) (by kernel_rfl) (by kernel_rfl) (fun _ _ _ h=>h) (Or.inr ⟨by rfl,rfl⟩) (by assumption) ?_
                      (try simp only [Act.put,List.setIfInBounds_toArray,List.set_cons_zero,List.set_cons_succ])
                      refine wpAnyH_take (i:=18) (oi:={ dst:=some 126,op:=_,type:=_,pos:=_,after:=_,guard:=_ }) (v:=undef) rfl (by kernel_rfl) (by kernel_rfl) (by kernel_rfl) (fun _ _ _ h=>h) (Or.inr ⟨by rfl,rfl⟩) (by assumption) ?_
                      (try simp only [Act.put,List.setIfInBounds_toArray,List.set_cons_zero,List.set_cons_succ])
                      refine wpAnyH_take (i:=19) (oi:={ dst:=some 127,op:=_,type:=_,pos:=_,after:=_,guard:=_ }) (v:=undef) rfl (by kernel_rfl) (by kernel_rfl) (by kernel_rfl) (fun _ _ _ h=>h) (Or.inr ⟨by rfl,rfl⟩) (by assumption) ?_
                      (try simp only [Act.put,List.setIfInBounds_toArray,List.set_cons_zero,List.set_cons_succ])
                      refine wpAnyH_take (i:=20) (oi:={ dst:=some 128,op:=_,type:=_,pos:=_,after:=_,guard:=_ }) (v:=undef) rfl (by kernel_rfl) (by kernel_rfl) (by kernel_rfl) (fun _ _ _ h=>h) (Or.inr ⟨by rfl,rfl⟩) (by assumption) ?_
                      (try simp only [Act.put,List.setIfInBounds_toArray,List.set_cons_zero,List.set_cons_succ])
                      refine wpAnyH_take (i:=21) (oi:={ dst:=some 129,op:=_,type:=_,pos:=_,after:=_,guard:=_ }) (v:=.bool false) rfl (by kernel_rfl) (by kernel_rfl) (by kernel_rfl) (fun _ _ _ h=>h) (Or.inl ⟨by rfl,fun w hSw=>by obtain ⟨⟨⟨y0,y1⟩,y2,y3⟩,y4⟩:=hSw;first | (go_simp;done) | go_simp⟩) (by assumption) ?_
                      (try simp only [Act.put,List.setIfInBounds_toArray,List.set_cons_zero,List.set_cons_succ])
                      refine wpAnyH_take (i:=22) (oi:={ dst:=some 14,op:=_,type:=_,pos:=_,after:=_,guard:=_ }) (v:=.bool false) rfl (by kernel_rfl) (by kernel_rfl) (by kernel_rfl) (fun _ _ _ h=>h) (Or.inl ⟨by rfl,fun w hSw=>by obtain ⟨⟨⟨y0,y1⟩,y2,y3⟩,y4⟩:=hSw;first | (go_simp;done) | go_simp⟩) (by assumption) ?_
                      (try simp only [Act.put,List.setIfInBounds_toArray,List.set_cons_zero,List.set_cons_succ])
                      refine wpAnyH_done (by kernel_rfl) ?_ _
                      clear hHeld
                      go_wp2_with fail
                      go_roundg (x+1 - (kk+1))
                      case measure=>omega
                      case rel=>exact ⟨kk+1,_,rfl,rfl,by omega,by omega,by go_num,HZ.out.2.2.2.drew⟩
                    · have t4:((e2:Int) != 0)=true:=by simp;omega
                      by_cases hw1:v1≤W1
                      · have t5:(v1:Int)≤(W1:Int):=by omega
                        have hsy:=HSY.out.1.1 kk hkk1 hkx (HOK.out he0 hw1)
                        exact absurd (HSY.out.1.2 x1) (by have h1:=hsy.1;have h2:=H24.out;omega)
                      · have t5:decide ((v1:Int)≤(W1:Int))=false:=decide_eq_false (by omega)
                        clear he0
                        go_wp2_with fail
                        refine wp_region_held_drew (S:=(fun W'=>((W'.cell? ⟨B5,0,none⟩=some (.slice aC k cC)∧W'.cell? ⟨B5,1,none⟩=some (.slice (some ⟨bo,oo,none⟩) (k+1) cO))∧(W'.cell? ⟨B6,0,none⟩=some (.int .i64 (W1:Int))∧W'.cell? ⟨B6,1,none⟩=some (.int .i64 (T1:Int))))∧W'.cell? ⟨bo,oo+kk,none⟩=some (.int .u8 (e2:Int)))) (by kernel_rfl) (HS7.out _ HZ.out.2.1.drew) (fun hHeld=>?_)
                        refine wpAnyH_take (i:=0) (oi:={ dst:=some 108,op:=_,type:=_,pos:=_,after:=_,guard:=_ }) (v:=.pointer (some ⟨B5,1,none⟩)) rfl (by kernel_rfl) (by kernel_rfl) (by kernel_rfl) (fun _ _ _ h=>h) (Or.inl ⟨by rfl,fun w hSw=>by obtain ⟨⟨⟨y0,y1⟩,y2,y3⟩,y4⟩:=hSw;first | (go_simp;done) | go_simp⟩) (by assumption) ?_
                        (try simp only [Act.put,List.setIfInBounds_toArray,List.set_cons_zero,List.set_cons_succ])
                        refine wpAnyH_take (i:=1) (oi:={ dst:=some 109,op:=_,type:=_,pos:=_,after:=_,guard:=_ }) (v:=.slice (some ⟨bo,oo,none⟩) (k+1) cO) rfl (by kernel_rfl) (by kernel_rfl) (by kernel_rfl) (fun _ _ _ h=>h) (Or.inl ⟨by rfl,fun w hSw=>by obtain ⟨⟨⟨y0,y1⟩,y2,y3⟩,y4⟩:=hSw;first | (go_simp;done) | go_simp⟩) (by assumption) ?_
                        (try simp only [Act.put,List.setIfInBounds_toArray,List.set_cons_zero,List.set_cons_succ])
                        refine wpAnyH_take (i:=2) (oi:={ dst:=some 110,op:=_,type:=_,pos:=_,after:=_,guard:=_ }) (v:=.int .i64 (kk:Int)) rfl (by kernel_rfl) (by kernel_rfl) (by kernel_rfl) (fun _ _ _ h=>h) (Or.inl ⟨by rfl,fun w hSw=>by obtain ⟨⟨⟨y0,y1⟩,y2,y3⟩,y4⟩:=hSw;first | (go_simp;done) | go_simp⟩) (by assumption) ?_
                        (try simp only [Act.put,List.setIfInBounds_toArray,List.set_cons_zero,List.set_cons_succ])
                        refine wpAnyH_take (i:=3) (oi:={ dst:=some 111,op:=_,type:=_,pos:=_,after:=_,guard:=_ }) (v:=.pointer (some ⟨bo,oo+kk,none⟩)) rfl (by kernel_rfl) (by kernel_rfl) (by kernel_rfl) (fun _ _ _ h=>h) (Or.inl ⟨by rfl,fun w hSw=>by obtain ⟨⟨⟨y0,y1⟩,y2,y3⟩,y4⟩:=hSw;first | (go_simp;done) | go_simp⟩) (by assumption) ?_
                        (try simp only [Act.put,List.setIfInBounds_toArray,List.set_cons_zero,List.set_cons_succ])
                        refine wpAnyH_take (i:=4) (oi:={ dst:=some 112,op:=_,type:=_,pos:=_,after:=_,guard:=_ }) (v:=.int .u8 (e2:Int)) rfl (by kernel_rfl) (by kernel_rfl) (by kernel_rfl) (fun _ _ _ h=>h) (Or.inl ⟨by rfl,fun w hSw=>by obtain ⟨⟨⟨y0,y1⟩,y2,y3⟩,y4⟩:=hSw;first | (go_simp;done) | go_simp⟩) (by assumption) ?_
                        (try simp only [Act.put,List.setIfInBounds_toArray,List.set_cons_zero,List.set_cons_succ])
                        refine wpAnyH_take (i:=5) (oi:={ dst:=some 113,op:=_,type:=_,pos:=_,after:=_,guard:=_ }) (v:=.bool true) rfl (by kernel_rfl) (by kernel_rfl) (by kernel_rfl) (fun _ _ _ h=>h) (Or.inl ⟨by rfl,fun w hSw=>by obtain ⟨⟨⟨y0,y1⟩,y2,y3⟩,y4⟩:=hSw;first | (go_simp;done) | go_simp⟩) (by assumption) ?_
                        (try simp only [Act.put,List.setIfInBounds_toArray,List.set_cons_zero,List.set_cons_succ])
                        refine wpAnyH_take (i:=6) (oi:={ dst:=some 114,op:=_,type:=_,pos:=_,after:=_,guard:=_ }) (v:=.bool true) rfl (by kernel_rfl) (by kernel_rfl) (by kernel_rfl) (fun _ _ _ h=>h) (Or.inl ⟨by rfl,fun w hSw=>by obtain ⟨⟨⟨y0,y1⟩,y2,y3⟩,y4⟩:=hSw;first | (go_simp;done) | go_simp⟩) (by assumption) ?_
                        (try simp only [Act.put,List.setIfInBounds_toArray,List.set_cons_zero,List.set_cons_succ])
                        refine wpAnyH_take (i:=7) (oi:={ dst:=some 115,op:=_,type:=_,pos:=_,after:=_,guard:=_ }) (v:=.agg #[.slice aC k cC,.slice (some ⟨bo,oo,none⟩) (k+1) cO]) rfl (by kernel_rfl) (by kernel_rfl) (by kernel_rfl) (fun _ _ _ h=>h) (Or.inl ⟨by rfl,fun w hSw=>by obtain ⟨⟨⟨y0,y1⟩,y2,y3⟩,y4⟩:=hSw;first | (go_simp;done) | go_simp⟩) (by assumption) ?_
                        (try simp only [Act.put,List.setIfInBounds_toArray,List.set_cons_zero,List.set_cons_succ])
                        refine wpAnyH_take (i:=8) (oi:={ dst:=some 116,op:=_,type:=_,pos:=_,after:=_,guard:=_ }) (v:=.int .i64 (q:Int)) rfl (by kernel_rfl) (by kernel_rfl) (by kernel_rfl) (fun _ _ _ h=>h) (Or.inl ⟨by rfl,fun w hSw=>by obtain ⟨⟨⟨y0,y1⟩,y2,y3⟩,y4⟩:=hSw;first | (go_simp;done) | go_simp⟩) (by assumption) ?_
                        (try simp only [Act.put,List.setIfInBounds_toArray,List.set_cons_zero,List.set_cons_succ])
                        refine wpAnyH_take (i:=9) (oi:={ dst:=some 117,op:=_,type:=_,pos:=_,after:=_,guard:=_ }) (v:=.int .i64 (kk:Int)) rfl (by kernel_rfl) (by kernel_rfl) (by kernel_rfl) (fun _ _ _ h=>h) (Or.inl ⟨by rfl,fun w hSw=>by obtain ⟨⟨⟨y0,y1⟩,y2,y3⟩,y4⟩:=hSw;first | (go_simp;done) | go_simp⟩) (by assumption) ?_
                        (try simp only [Act.put,List.setIfInBounds_toArray,List.set_cons_zero,List.set_cons_succ])
                        refine wpAnyH_take (i:=10) (oi:={ dst:=some 118,op:=_,type:=_,pos:=_,after:=_,guard:=_ }) (v:=.pointer (some ⟨B5,1,none⟩)) rfl (by kernel_rfl) (by kernel_rfl) (by kernel_rfl) (fun _ _ _ h=>h) (Or.inl ⟨by rfl,fun w hSw=>by obtain ⟨⟨⟨y0,y1⟩,y2,y3⟩,y4⟩:=hSw;first | (go_simp;done) | go_simp⟩) (by assumption) ?_
                        (try simp only [Act.put,List.setIfInBounds_toArray,List.set_cons_zero,List.set_cons_succ])
                        refine wpAnyH_take (i:=11) (oi:={ dst:=some 119,op:=_,type:=_,pos:=_,after:=_,guard:=_ }) (v:=.slice (some ⟨bo,oo,none⟩) (k+1) cO) rfl (by kernel_rfl) (by kernel_rfl) (by kernel_rfl) (fun _ _ _ h=>h) (Or.inl ⟨by rfl,fun w hSw=>by obtain ⟨⟨⟨y0,y1⟩,y2,y3⟩,y4⟩:=hSw;first | (go_simp;done) | go_simp⟩) (by assumption) ?_
                        (try simp only [Act.put,List.setIfInBounds_toArray,List.set_cons_zero,List.set_cons_succ])
                        refine wpAnyH_take (i:=12) (oi:={ dst:=some 120,op:=_,type:=_,pos:=_,after:=_,guard:=_ }) (v:=.int .i64 (kk:Int)) rfl (by kernel_rfl) (by kernel_rfl) (by kernel_rfl) (fun _ _ _ h=>h) (Or.inl ⟨by rfl,fun w hSw=>by obtain ⟨⟨⟨y0,y1⟩,y2,y3⟩,y4⟩:=hSw;first | (go_simp;done) | go_simp⟩) (by assumption) ?_
                        (try simp only [Act.put,List.setIfInBounds_toArray,List.set_cons_zero,List.set_cons_succ])
                        refine wpAnyH_take (i:=13) (oi:={ dst:=some 121,op:=_,type:=_,pos:=_,after:=_,guard:=_ }) (v:=.pointer (some ⟨bo,oo+kk,none⟩)) rfl (by kernel_rfl) (by kernel_rfl) (by kernel_rfl) (fun _ _ _ h=>h) (Or.inl ⟨by rfl,fun w hSw=>by obtain ⟨⟨⟨y0,y1⟩,y2,y3⟩,y4⟩:=hSw;first | (go_simp;done) | go_simp⟩) (by assumption) ?_
                        (try simp only [Act.put,List.setIfInBounds_toArray,List.set_cons_zero,List.set_cons_succ])
                        refine wpAnyH_take (i:=14) (oi:={ dst:=some 122,op:=_,type:=_,pos:=_,after:=_,guard:=_ }) (v:=.int .u8 (e2:Int)) rfl (by kernel_rfl) (by kernel_rfl) (by kernel_rfl) (fun _ _ _ h=>h) (Or.inl ⟨by rfl,fun w hSw=>by obtain ⟨⟨⟨y0,y1⟩,y2,y3⟩,y4⟩:=hSw;first | (go_simp;done) | go_simp⟩) (by assumption) ?_
                        (try simp only [Act.put,List.setIfInBounds_toArray,List.set_cons_zero,List.set_cons_succ])
                        refine wpAnyH_take (i:=15) (oi:={ dst:=some 123,op:=_,type:=_,pos:=_,after:=_,guard:=_ }) (v:=.pointer (some ⟨B6,1,none⟩)) rfl (by kernel_rfl) (by kernel_rfl) (by kernel_rfl) (fun _ _ _ h=>h) (Or.inl ⟨by rfl,fun w hSw=>by obtain ⟨⟨⟨y0,y1⟩,y2,y3⟩,y4⟩:=hSw;first | (go_simp;done) | go_simp⟩) (by assumption) ?_
                        (try simp only [Act.put,List.setIfInBounds_toArray,List.set_cons_zero,List.set_cons_succ])
                        refine wpAnyH_take (i:=16) (oi:={ dst:=some 124,op:=_,type:=_,pos:=_,after:=_,guard:=_ }) (v:=.int .i64 (T1:Int)) rfl (by kernel_rfl) (by kernel_rfl) (by kernel_rfl) (fun _ _ _ h=>h) (Or.inl ⟨by rfl,fun w hSw=>by obtain ⟨⟨⟨y0,y1⟩,y2,y3⟩,y4⟩:=hSw;first | (go_simp;done) | go_simp⟩) (by assumption) ?_
                        (try simp only [Act.put,List.setIfInBounds_toArray,List.set_cons_zero,List.set_cons_succ])
                        refine wpAnyH_take (i:=18) (oi:={ dst:=some 126,op:=_,type:=_,pos:=_,after:=_,guard:=_ }) (v:=.pointer (some ⟨B6,0,none⟩)) rfl (by kernel_rfl) (by kernel_rfl) (by kernel_rfl) (fun _ _ _ h=>h) (Or.inl ⟨by rfl,fun w hSw=>by obtain ⟨⟨⟨y0,y1⟩,y2,y3⟩,y4⟩:=hSw;first | (go_simp;done) | go_simp⟩) (by assumption) ?_
                        (try simp only [Act.put,List.setIfInBounds_toArray,List.set_cons_zero,List.set_cons_succ])
                        refine wpAnyH_take (i:=19) (oi:={ dst:=some 127,op:=_,type:=_,pos:=_,after:=_,guard:=_ }) (v:=.int .i64 (W1:Int)) rfl (by kernel_rfl) (by kernel_rfl) (by kernel_rfl) (fun _ _ _ h=>h) (Or.inl ⟨by rfl,fun w hSw=>by obtain ⟨⟨⟨y0,y1⟩,y2,y3⟩,y4⟩:=hSw;first | (go_simp;done) | go_simp⟩) (by assumption) ?_
                        (try simp only [Act.put,List.setIfInBounds_toArray,List.set_cons_zero,List.set_cons_succ])
                        refine wpAnyH_ready (rs:=[17]) (by kernel_rfl) (by simp) ?_
                        refine AllReadyH.cons rfl (fun K hK=>?_) AllReadyH.nil
                        rw [if_pos (by rfl)]
                        go_simp
                        refine Calls.mono (HC1.out _ HZ.out.2.1.drew) ?_
                        rintro r w3 ⟨rfl,ho3⟩
                        have H3:Hid (Only (fun _=>False) Ud w3∧Only (fun _=>False) X w3∧Only (fun _=>False) U1 w3):=⟨HZ.out.2.2.2.drew.trans ho3,HZ.out.2.1.drew.trans ho3,HZ.out.2.2.1.drew.trans ho3⟩
                        clear ho3
                        refine hK.out _ _ (HS7.out _ H3.out.2.1) (fun hHeld=>?_)
                        clear hK
                        (try simp only [Act.put,List.setIfInBounds_toArray,List.set_cons_zero,List.set_cons_succ])
                        refine wpAnyH_take (i:=20) (oi:={ dst:=some 128,op:=_,type:=_,pos:=_,after:=_,guard:=_ }) (v:=.bool false) rfl (by kernel_rfl) (by kernel_rfl) (by kernel_rfl) (fun _ _ _ h=>h) (Or.inl ⟨by rfl,fun w hSw=>by obtain ⟨⟨⟨y0,y1⟩,y2,y3⟩,y4⟩:=hSw;first | (go_simp;done) | go_simp⟩) (by assumption) ?_
                        (try simp only [Act.put,List.setIfInBounds_toArray,List.set_cons_zero,List.set_cons_succ])
                        refine wpAnyH_take (i:=21) (oi:={ dst:=some 129,op:=_,type:=_,pos:=_,after:=_,guard:=_ }) (v:=.bool false) rfl (by kernel_rfl) (by kernel_rfl) (by kernel_rfl) (fun _ _ _ h=>h) (Or.inl ⟨by rfl,fun w hSw=>by obtain ⟨⟨⟨y0,y1⟩,y2,y3⟩,y4⟩:=hSw;first | (go_simp;done) | go_simp⟩) (by assumption) ?_
                        (try simp only [Act.put,List.setIfInBounds_toArray,List.set_cons_zero,List.set_cons_succ])
                        refine wpAnyH_take (i:=22) (oi:={ dst:=some 14,op:=_,type:=_,pos:=_,after:=_,guard:=_ }) (v:=.bool false) rfl (by kernel_rfl) (by kernel_rfl) (by kernel_rfl) (fun _ _ _ h=>h) (Or.inl ⟨by rfl,fun w hSw=>by obtain ⟨⟨⟨y0,y1⟩,y2,y3⟩,y4⟩:=hSw;first | (go_simp;done) | go_simp⟩) (by assumption) ?_
                        (try simp only [Act.put,List.setIfInBounds_toArray,List.set_cons_zero,List.set_cons_succ])
                        refine wpAnyH_done (by kernel_rfl) ?_ _
                        clear hHeld
                        go_wp2_with fail
                        go_roundg (x+1 - (kk+1))
                        case measure=>omega
                        case rel=>exact ⟨kk+1,_,rfl,rfl,by omega,by omega,by go_num,H3.out.1⟩
                  · have u1:decide ((kk:Int)≤(x:Int))=false:=decide_eq_false (by omega)
                    go_wp2_with fail
                    go_roundg (nL - (j+1))
                    case measure=>omega
                    case rel=>exact ⟨j+1,x1,_,rfl,rfl,by omega,by omega,by omega,rfl,by go_num,HSY.out.2,HZ.out.1⟩
            · have s4:((x2:Int) != 4)=true:=by simp;omega
              have s5:((x2:Int) == 0)=false:=by rw [beq_eq_false_iff_ne];omega
              have s6:((x2:Int) == 4)=false:=by rw [beq_eq_false_iff_ne];omega
              have e12:e1=x2:=by rw [← hD1];exact h25.symm
              rw [e12] at cO1
              have HCX:Hid (∀ W',Only (fun _=>False) X W'→W'.cell? ⟨bo,oo+x1,none⟩=some (.int .u8 (x2:Int))):=fun W' ho=>HCO.out W' ho x1 x2 (by rw [← e12];exact hO1)
              clear hO1 hD1 h24 h25 h26 e12
              by_cases hwd:ce≤W1
              · as_aux_lemma =>
                have v1':decide ((W1:Int) < (ce:Int))=false:=decide_eq_false (by omega)
                refine wp_region_held_drew (S:=(fun W'=>W'.cell? ⟨XB,0,none⟩=some (.int .i64 (q:Int))∧W'.cell? ⟨XB,1,none⟩=some (.int .i64 (x1:Int))∧W'.cell? ⟨XB,3,none⟩=some (.int .u8 (x2:Int))∧W'.cell? ⟨B5,1,none⟩=some (.slice (some ⟨bo,oo,none⟩) (k+1) cO)∧W'.cell? ⟨bo,oo+x1,none⟩=some (.int .u8 (x2:Int)))) (by kernel_rfl) (⟨(HXC.out _ (Only.refl _ _).drew).1,(HXC.out _ (Only.refl _ _).drew).2.1,(HXC.out _ (Only.refl _ _).drew).2.2.2.1,(HPC.out _ HX1.out.2.drew).1.2,HCX.out _ HX1.out.2.drew⟩) (fun hHeld=>?_)
                refine wpAnyH_take (i:=0) (oi:={ dst:=some 42,op:=_,type:=_,pos:=_,after:=_,guard:=_ }) (v:=.pointer (some ⟨XB,0,none⟩)) rfl (by kernel_rfl) (by kernel_rfl) (by kernel_rfl) (fun _ _ _ h=>h) (Or.inl ⟨by rfl,fun w hSw=>by obtain ⟨y0,y1,y2,y3,y4⟩:=hSw;first | (go_simp;done) | go_simp⟩) (by assumption) ?_
                (try simp only [Act.put,List.setIfInBounds_toArray,List.set_cons_zero,List.set_cons_succ])
                refine wpAnyH_take (i:=1) (oi:={ dst:=some 43,op:=_,type:=_,pos:=_,after:=_,guard:=_ }) (v:=.int .i64 (q:Int)) rfl (by kernel_rfl) (by kernel_rfl) (by kernel_rfl) (fun _ _ _ h=>h) (Or.inl ⟨by rfl,fun w hSw=>by obtain ⟨y0,y1,y2,y3,y4⟩:=hSw;first | (go_simp;done) | go_simp⟩) (by assumption) ?_
                (try simp only [Act.put,List.setIfInBounds_toArray,List.set_cons_zero,List.set_cons_succ])
                refine wpAnyH_take (i:=2) (oi:={ dst:=some 44,op:=_,type:=_,pos:=_,after:=_,guard:=_ }) (v:=.int .i64 (q:Int)) rfl (by kernel_rfl) (by kernel_rfl) (by kernel_rfl) (fun _ _ _ h=>h) (Or.inl ⟨by rfl,fun w hSw=>by obtain ⟨y0,y1,y2,y3,y4⟩:=hSw;first | (go_simp;done) | go_simp⟩) (by assumption) ?_
                (try simp only [Act.put,List.setIfInBounds_toArray,List.set_cons_zero,List.set_cons_succ])
                refine wpAnyH_take (i:=3) (oi:={ dst:=some 45,op:=_,type:=_,pos:=_,after:=_,guard:=_ }) (v:=.bool false) rfl (by kernel_rfl) (by kernel_rfl) (by kernel_rfl) (fun _ _ _ h=>h) (Or.inl ⟨by rfl,fun w hSw=>by obtain ⟨y0,y1,y2,y3,y4⟩:=hSw;first | (go_simp;done) | go_simp⟩) (by assumption) ?_
                (try simp only [Act.put,List.setIfInBounds_toArray,List.set_cons_zero,List.set_cons_succ])
                refine wpAnyH_take (i:=4) (oi:={ dst:=some 46,op:=_,type:=_,pos:=_,after:=_,guard:=_ }) (v:=.bool false) rfl (by kernel_rfl) (by kernel_rfl) (by kernel_rfl) (fun _ _ _ h=>h) (Or.inl ⟨by rfl,fun w hSw=>by obtain ⟨y0,y1,y2,y3,y4⟩:=hSw;first | (go_simp;done) | go_simp⟩) (by assumption) ?_
                (try simp only [Act.put,List.setIfInBounds_toArray,List.set_cons_zero,List.set_cons_succ])
                refine wpAnyH_take (i:=5) (oi:={ dst:=some 47,op:=_,type:=_,pos:=_,after:=_,guard:=_ }) (v:=.pointer (some ⟨XB,1,none⟩)) rfl (by kernel_rfl) (by kernel_rfl) (by kernel_rfl) (fun _ _ _ h=>h) (Or.inl ⟨by rfl,fun w hSw=>by obtain ⟨y0,y1,y2,y3,y4⟩:=hSw;first | (go_simp;done) | go_simp⟩) (by assumption) ?_
                (try simp only [Act.put,List.setIfInBounds_toArray,List.set_cons_zero,List.set_cons_succ])
                refine wpAnyH_take (i:=6) (oi:={ dst:=some 48,op:=_,type:=_,pos:=_,after:=_,guard:=_ }) (v:=.int .i64 (x1:Int)) rfl (by kernel_rfl) (by kernel_rfl) (by kernel_rfl) (fun _ _ _ h=>h) (Or.inl ⟨by rfl,fun w hSw=>by obtain ⟨y0,y1,y2,y3,y4⟩:=hSw;first | (go_simp;done) | go_simp⟩) (by assumption) ?_
                (try simp only [Act.put,List.setIfInBounds_toArray,List.set_cons_zero,List.set_cons_succ])
                refine wpAnyH_take (i:=7) (oi:={ dst:=some 49,op:=_,type:=_,pos:=_,after:=_,guard:=_ }) (v:=.int .i64 (q:Int)) rfl (by kernel_rfl) (by kernel_rfl) (by kernel_rfl) (fun _ _ _ h=>h) (Or.inl ⟨by rfl,fun w hSw=>by obtain ⟨y0,y1,y2,y3,y4⟩:=hSw;first | (go_simp;done) | go_simp⟩) (by assumption) ?_
                (try simp only [Act.put,List.setIfInBounds_toArray,List.set_cons_zero,List.set_cons_succ])
                refine wpAnyH_take (i:=8) (oi:={ dst:=some 50,op:=_,type:=_,pos:=_,after:=_,guard:=_ }) (v:=.bool false) rfl (by kernel_rfl) (by kernel_rfl) (by kernel_rfl) (fun _ _ _ h=>h) (Or.inl ⟨by rfl,fun w hSw=>by obtain ⟨y0,y1,y2,y3,y4⟩:=hSw;first | (go_simp;done) | go_simp⟩) (by assumption) ?_
                (try simp only [Act.put,List.setIfInBounds_toArray,List.set_cons_zero,List.set_cons_succ])
                refine wpAnyH_take (i:=9) (oi:={ dst:=some 51,op:=_,type:=_,pos:=_,after:=_,guard:=_ }) (v:=.bool false) rfl (by kernel_rfl) (by kernel_rfl) (by kernel_rfl) (fun _ _ _ h=>h) (Or.inl ⟨by rfl,fun w hSw=>by obtain ⟨y0,y1,y2,y3,y4⟩:=hSw;first | (go_simp;done) | go_simp⟩) (by assumption) ?_
                (try simp only [Act.put,List.setIfInBounds_toArray,List.set_cons_zero,List.set_cons_succ])
                refine wpAnyH_take (i:=10) (oi:={ dst:=some 52,op:=_,type:=_,pos:=_,after:=_,guard:=_ }) (v:=.bool false) rfl (by kernel_rfl) (by kernel_rfl) (by kernel_rfl) (fun _ _ _ h=>h) (Or.inl ⟨by rfl,fun w hSw=>by obtain ⟨y0,y1,y2,y3,y4⟩:=hSw;first | (go_simp;done) | go_simp⟩) (by assumption) ?_
                (try simp only [Act.put,List.setIfInBounds_toArray,List.set_cons_zero,List.set_cons_succ])
                refine wpAnyH_take (i:=11) (oi:={ dst:=some 53,op:=_,type:=_,pos:=_,after:=_,guard:=_ }) (v:=.pointer (some ⟨XB,1,none⟩)) rfl (by kernel_rfl) (by kernel_rfl) (by kernel_rfl) (fun _ _ _ h=>h) (Or.inl ⟨by rfl,fun w hSw=>by obtain ⟨y0,y1,y2,y3,y4⟩:=hSw;first | (go_simp;done) | go_simp⟩) (by assumption) ?_
                (try simp only [Act.put,List.setIfInBounds_toArray,List.set_cons_zero,List.set_cons_succ])
                refine wpAnyH_take (i:=12) (oi:={ dst:=some 54,op:=_,type:=_,pos:=_,after:=_,guard:=_ }) (v:=.int .i64 (x1:Int)) rfl (by kernel_rfl) (by kernel_rfl) (by kernel_rfl) (fun _ _ _ h=>h) (Or.inl ⟨by rfl,fun w hSw=>by obtain ⟨y0,y1,y2,y3,y4⟩:=hSw;first | (go_simp;done) | go_simp⟩) (by assumption) ?_
                (try simp only [Act.put,List.setIfInBounds_toArray,List.set_cons_zero,List.set_cons_succ])
                refine wpAnyH_take (i:=13) (oi:={ dst:=some 55,op:=_,type:=_,pos:=_,after:=_,guard:=_ }) (v:=.int .i64 (x:Int)) rfl (by kernel_rfl) (by kernel_rfl) (by kernel_rfl) (fun _ _ _ h=>h) (Or.inl ⟨by rfl,fun w hSw=>by obtain ⟨y0,y1,y2,y3,y4⟩:=hSw;first | (go_simp;done) | go_simp⟩) (by assumption) ?_
                (try simp only [Act.put,List.setIfInBounds_toArray,List.set_cons_zero,List.set_cons_succ])
                refine wpAnyH_take (i:=14) (oi:={ dst:=some 56,op:=_,type:=_,pos:=_,after:=_,guard:=_ }) (v:=.bool false) rfl (by kernel_rfl) (by kernel_rfl) (by kernel_rfl) (fun _ _ _ h=>h) (Or.inl ⟨by rfl,fun w hSw=>by obtain ⟨y0,y1,y2,y3,y4⟩:=hSw;first | (go_simp;done) | go_simp⟩) (by assumption) ?_
                (try simp only [Act.put,List.setIfInBounds_toArray,List.set_cons_zero,List.set_cons_succ])
                refine wpAnyH_take (i:=15) (oi:={ dst:=some 57,op:=_,type:=_,pos:=_,after:=_,guard:=_ }) (v:=.bool false) rfl (by kernel_rfl) (by kernel_rfl) (by kernel_rfl) (fun _ _ _ h=>h) (Or.inl ⟨by rfl,fun w hSw=>by obtain ⟨y0,y1,y2,y3,y4⟩:=hSw;first | (go_simp;done) | go_simp⟩) (by assumption) ?_
                (try simp only [Act.put,List.setIfInBounds_toArray,List.set_cons_zero,List.set_cons_succ])
                refine wpAnyH_take (i:=16) (oi:={ dst:=some 58,op:=_,type:=_,pos:=_,after:=_,guard:=_ }) (v:=.bool false) rfl (by kernel_rfl) (by kernel_rfl) (by kernel_rfl) (fun _ _ _ h=>h) (Or.inl ⟨by rfl,fun w hSw=>by obtain ⟨y0,y1,y2,y3,y4⟩:=hSw;first | (go_simp;done) | go_simp⟩) (by assumption) ?_
                (try simp only [Act.put,List.setIfInBounds_toArray,List.set_cons_zero,List.set_cons_succ])
                refine wpAnyH_take (i:=17) (oi:={ dst:=some 59,op:=_,type:=_,pos:=_,after:=_,guard:=_ }) (v:=.pointer (some ⟨XB,3,none⟩)) rfl (by kernel_rfl) (by kernel_rfl) (by kernel_rfl) (fun _ _ _ h=>h) (Or.inl ⟨by rfl,fun w hSw=>by obtain ⟨y0,y1,y2,y3,y4⟩:=hSw;first | (go_simp;done) | go_simp⟩) (by assumption) ?_
                (try simp only [Act.put,List.setIfInBounds_toArray,List.set_cons_zero,List.set_cons_succ])
                refine wpAnyH_take (i:=18) (oi:={ dst:=some 60,op:=_,type:=_,pos:=_,after:=_,guard:=_ }) (v:=.int .u8 (x2:Int)) rfl (by kernel_rfl) (by kernel_rfl) (by kernel_rfl) (fun _ _ _ h=>h) (Or.inl ⟨by rfl,fun w hSw=>by obtain ⟨y0,y1,y2,y3,y4⟩:=hSw;first | (go_simp;done) | go_simp⟩) (by assumption) ?_
                (try simp only [Act.put,List.setIfInBounds_toArray,List.set_cons_zero,List.set_cons_succ])
                refine wpAnyH_take (i:=19) (oi:={ dst:=some 61,op:=_,type:=_,pos:=_,after:=_,guard:=_ }) (v:=.bool true) rfl (by kernel_rfl) (by kernel_rfl) (by kernel_rfl) (fun _ _ _ h=>h) (Or.inl ⟨by rfl,fun w hSw=>by obtain ⟨y0,y1,y2,y3,y4⟩:=hSw;first | (go_simp;done) | go_simp⟩) (by assumption) ?_
                (try simp only [Act.put,List.setIfInBounds_toArray,List.set_cons_zero,List.set_cons_succ])
                refine wpAnyH_take (i:=20) (oi:={ dst:=some 62,op:=_,type:=_,pos:=_,after:=_,guard:=_ }) (v:=.bool true) rfl (by kernel_rfl) (by kernel_rfl) (by kernel_rfl) (fun _ _ _ h=>h) (Or.inl ⟨by rfl,fun w hSw=>by obtain ⟨y0,y1,y2,y3,y4⟩:=hSw;first | (go_simp;done) | go_simp⟩) (by assumption) ?_
                (try simp only [Act.put,List.setIfInBounds_toArray,List.set_cons_zero,List.set_cons_succ])
                refine wpAnyH_take (i:=21) (oi:={ dst:=some 63,op:=_,type:=_,pos:=_,after:=_,guard:=_ }) (v:=.pointer (some ⟨XB,3,none⟩)) rfl (by kernel_rfl) (by kernel_rfl) (by kernel_rfl) (fun _ _ _ h=>h) (Or.inl ⟨by rfl,fun w hSw=>by obtain ⟨y0,y1,y2,y3,y4⟩:=hSw;first | (go_simp;done) | go_simp⟩) (by assumption) ?_
                (try simp only [Act.put,List.setIfInBounds_toArray,List.set_cons_zero,List.set_cons_succ])
                refine wpAnyH_take (i:=22) (oi:={ dst:=some 64,op:=_,type:=_,pos:=_,after:=_,guard:=_ }) (v:=.int .u8 (x2:Int)) rfl (by kernel_rfl) (by kernel_rfl) (by kernel_rfl) (fun _ _ _ h=>h) (Or.inl ⟨by rfl,fun w hSw=>by obtain ⟨y0,y1,y2,y3,y4⟩:=hSw;first | (go_simp;done) | go_simp⟩) (by assumption) ?_
                (try simp only [Act.put,List.setIfInBounds_toArray,List.set_cons_zero,List.set_cons_succ])
                refine wpAnyH_take (i:=23) (oi:={ dst:=some 65,op:=_,type:=_,pos:=_,after:=_,guard:=_ }) (v:=.pointer (some ⟨B5,1,none⟩)) rfl (by kernel_rfl) (by kernel_rfl) (by kernel_rfl) (fun _ _ _ h=>h) (Or.inl ⟨by rfl,fun w hSw=>by obtain ⟨y0,y1,y2,y3,y4⟩:=hSw;first | (go_simp;done) | go_simp⟩) (by assumption) ?_
                (try simp only [Act.put,List.setIfInBounds_toArray,List.set_cons_zero,List.set_cons_succ])
                refine wpAnyH_take (i:=24) (oi:={ dst:=some 66,op:=_,type:=_,pos:=_,after:=_,guard:=_ }) (v:=.slice (some ⟨bo,oo,none⟩) (k+1) cO) rfl (by kernel_rfl) (by kernel_rfl) (by kernel_rfl) (fun _ _ _ h=>h) (Or.inl ⟨by rfl,fun w hSw=>by obtain ⟨y0,y1,y2,y3,y4⟩:=hSw;first | (go_simp;done) | go_simp⟩) (by assumption) ?_
                (try simp only [Act.put,List.setIfInBounds_toArray,List.set_cons_zero,List.set_cons_succ])
                refine wpAnyH_take (i:=25) (oi:={ dst:=some 67,op:=_,type:=_,pos:=_,after:=_,guard:=_ }) (v:=.pointer (some ⟨XB,1,none⟩)) rfl (by kernel_rfl) (by kernel_rfl) (by kernel_rfl) (fun _ _ _ h=>h) (Or.inl ⟨by rfl,fun w hSw=>by obtain ⟨y0,y1,y2,y3,y4⟩:=hSw;first | (go_simp;done) | go_simp⟩) (by assumption) ?_
                (try simp only [Act.put,List.setIfInBounds_toArray,List.set_cons_zero,List.set_cons_succ])
                refine wpAnyH_take (i:=26) (oi:={ dst:=some 68,op:=_,type:=_,pos:=_,after:=_,guard:=_ }) (v:=.int .i64 (x1:Int)) rfl (by kernel_rfl) (by kernel_rfl) (by kernel_rfl) (fun _ _ _ h=>h) (Or.inl ⟨by rfl,fun w hSw=>by obtain ⟨y0,y1,y2,y3,y4⟩:=hSw;first | (go_simp;done) | go_simp⟩) (by assumption) ?_
                (try simp only [Act.put,List.setIfInBounds_toArray,List.set_cons_zero,List.set_cons_succ])
                refine wpAnyH_take (i:=27) (oi:={ dst:=some 69,op:=_,type:=_,pos:=_,after:=_,guard:=_ }) (v:=.pointer (some ⟨bo,oo+x1,none⟩)) rfl (by kernel_rfl) (by kernel_rfl) (by kernel_rfl) (fun _ _ _ h=>h) (Or.inl ⟨by rfl,fun w hSw=>by obtain ⟨y0,y1,y2,y3,y4⟩:=hSw;first | (go_simp;done) | go_simp⟩) (by assumption) ?_
                (try simp only [Act.put,List.setIfInBounds_toArray,List.set_cons_zero,List.set_cons_succ])
                refine wpAnyH_take (i:=28) (oi:={ dst:=some 70,op:=_,type:=_,pos:=_,after:=_,guard:=_ }) (v:=.int .u8 (x2:Int)) rfl (by kernel_rfl) (by kernel_rfl) (by kernel_rfl) (fun _ _ _ h=>h) (Or.inl ⟨by rfl,fun w hSw=>by obtain ⟨y0,y1,y2,y3,y4⟩:=hSw;first | (go_simp;done) | go_simp⟩) (by assumption) ?_
                (try simp only [Act.put,List.setIfInBounds_toArray,List.set_cons_zero,List.set_cons_succ])
                refine wpAnyH_take (i:=29) (oi:={ dst:=some 71,op:=_,type:=_,pos:=_,after:=_,guard:=_ }) (v:=.bool false) rfl (by kernel_rfl) (by kernel_rfl) (by kernel_rfl) (fun _ _ _ h=>h) (Or.inl ⟨by rfl,fun w hSw=>by obtain ⟨y0,y1,y2,y3,y4⟩:=hSw;first | (go_simp;done) | go_simp⟩) (by assumption) ?_
                (try simp only [Act.put,List.setIfInBounds_toArray,List.set_cons_zero,List.set_cons_succ])
                refine wpAnyH_take (i:=30) (oi:={ dst:=some 72,op:=_,type:=_,pos:=_,after:=_,guard:=_ }) (v:=.bool false) rfl (by kernel_rfl) (by kernel_rfl) (by kernel_rfl) (fun _ _ _ h=>h) (Or.inl ⟨by rfl,fun w hSw=>by obtain ⟨y0,y1,y2,y3,y4⟩:=hSw;first | (go_simp;done) | go_simp⟩) (by assumption) ?_
                (try simp only [Act.put,List.setIfInBounds_toArray,List.set_cons_zero,List.set_cons_succ])
                refine wpAnyH_take (i:=31) (oi:={ dst:=some 73,op:=_,type:=_,pos:=_,after:=_,guard:=_ }) (v:=.bool false) rfl (by kernel_rfl) (by kernel_rfl) (by kernel_rfl) (fun _ _ _ h=>h) (Or.inl ⟨by rfl,fun w hSw=>by obtain ⟨y0,y1,y2,y3,y4⟩:=hSw;first | (go_simp;done) | go_simp⟩) (by assumption) ?_
                (try simp only [Act.put,List.setIfInBounds_toArray,List.set_cons_zero,List.set_cons_succ])
                refine wpAnyH_take (i:=32) (oi:={ dst:=some 74,op:=_,type:=_,pos:=_,after:=_,guard:=_ }) (v:=.bool false) rfl (by kernel_rfl) (by kernel_rfl) (by kernel_rfl) (fun _ _ _ h=>h) (Or.inl ⟨by rfl,fun w hSw=>by obtain ⟨y0,y1,y2,y3,y4⟩:=hSw;first | (go_simp;done) | go_simp⟩) (by assumption) ?_
                (try simp only [Act.put,List.setIfInBounds_toArray,List.set_cons_zero,List.set_cons_succ])
                refine wpAnyH_take (i:=33) (oi:={ dst:=some 75,op:=_,type:=_,pos:=_,after:=_,guard:=_ }) (v:=.pointer (some ⟨XB,3,none⟩)) rfl (by kernel_rfl) (by kernel_rfl) (by kernel_rfl) (fun _ _ _ h=>h) (Or.inl ⟨by rfl,fun w hSw=>by obtain ⟨y0,y1,y2,y3,y4⟩:=hSw;first | (go_simp;done) | go_simp⟩) (by assumption) ?_
                (try simp only [Act.put,List.setIfInBounds_toArray,List.set_cons_zero,List.set_cons_succ])
                refine wpAnyH_take (i:=34) (oi:={ dst:=some 76,op:=_,type:=_,pos:=_,after:=_,guard:=_ }) (v:=.int .u8 (x2:Int)) rfl (by kernel_rfl) (by kernel_rfl) (by kernel_rfl) (fun _ _ _ h=>h) (Or.inl ⟨by rfl,fun w hSw=>by obtain ⟨y0,y1,y2,y3,y4⟩:=hSw;first | (go_simp;done) | go_simp⟩) (by assumption) ?_
                (try simp only [Act.put,List.setIfInBounds_toArray,List.set_cons_zero,List.set_cons_succ])
                refine wpAnyH_take (i:=35) (oi:={ dst:=some 77,op:=_,type:=_,pos:=_,after:=_,guard:=_ }) (v:=.bool false) rfl (by kernel_rfl) (by kernel_rfl) (by kernel_rfl) (fun _ _ _ h=>h) (Or.inl ⟨by rfl,fun w hSw=>by obtain ⟨y0,y1,y2,y3,y4⟩:=hSw;first | (go_simp;done) | go_simp⟩) (by assumption) ?_
                (try simp only [Act.put,List.setIfInBounds_toArray,List.set_cons_zero,List.set_cons_succ])
                refine wpAnyH_take (i:=36) (oi:={ dst:=some 78,op:=_,type:=_,pos:=_,after:=_,guard:=_ }) (v:=.bool false) rfl (by kernel_rfl) (by kernel_rfl) (by kernel_rfl) (fun _ _ _ h=>h) (Or.inl ⟨by rfl,fun w hSw=>by obtain ⟨y0,y1,y2,y3,y4⟩:=hSw;first | (go_simp;done) | go_simp⟩) (by assumption) ?_
                (try simp only [Act.put,List.setIfInBounds_toArray,List.set_cons_zero,List.set_cons_succ])
                refine wpAnyH_done (by kernel_rfl) ?_ _
                clear hHeld
                go_upto_region 18 with fail
                generalize hUd:U1.drew=Ud
                have HWd:Hid (Only (fun _=>False) V1 Ud∧Only (fun _=>False) X Ud∧Only (fun _=>False) U1 Ud):=by rw [← hUd];exact ⟨HX1.out.1.drew,HX1.out.2.drew,(Only.refl _ _).drew⟩
                clear hUd a0' a1' a2' a3' aL' r0 r1 k0 k1 k2 k3 k4 k5 l5 l6 cO1
                go_wp2_with fail
                go_loopg [13] (x - q) (fun gh v13 wr=>∃ (kk:Nat) (Z:World),Z=wr∧gh=x+1 - kk∧q < kk∧kk≤x+1∧v13=.int .i64 (kk:Int)∧Only (fun _=>False) Ud Z)
                case atStart=>exact ⟨q+1,_,rfl,by omega,by omega,by omega,by go_num,(Only.refl _ _)⟩
                case round =>
                  obtain ⟨kk,Z,hZ,rfl,hkk1,hkk2,rfl,hoZ⟩:=hrel
                  subst hZ
                  have HZ:Hid (Only (fun _=>False) V1 Z∧Only (fun _=>False) X Z∧Only (fun _=>False) U1 Z∧Only (fun _=>False) Ud Z):=⟨HWd.out.1.trans hoZ,HWd.out.2.1.trans hoZ,HWd.out.2.2.trans hoZ,hoZ⟩
                  clear hoZ
                  obtain ⟨b0',b1',b2',b3',bL'⟩:=HXC.out Z HZ.out.2.2.1
                  by_cases hkx:kk≤x
                  · have u1:(kk:Int)≤(x:Int):=by omega
                    have u2:(kk:Int) < (k:Int)+1:=by omega
                    have u3:kk < k+1:=by omega
                    obtain ⟨e2,hO2,hD2⟩:=getD_some (O:=O) (k:=kk) (by rw [HOL.out.1];omega)
                    have he2:e2 < 4:=HO4.out e2 (List.mem_of_getElem? hO2)
                    obtain ⟨v1,hv1⟩:∃ y,y=Sp.wde C T1 q kk e2:=⟨_,rfl⟩
                    have hv1s:v1≤66001:=by rw [hv1];exact Sp.wde_small (HPv.out X (Only.refl _ _)).ok ht0 ht1 (by omega)
                    have HC1:Hid (∀ W',Only (fun _=>False) X W'→Calls Try.prog 16 #[.agg #[.slice aC k cC,.slice (some ⟨bo,oo,none⟩) (k+1) cO],.int .i64 (q:Int),.int .i64 (kk:Int),.int .u8 (e2:Int),.int .i64 (T1:Int)] W' fun e w'=>e=.returned (.int .i64 (v1:Int))∧Only (fun _=>False) W' w'):=fun W' ho=>by rw [hv1,wde_cel];exact cells_any C O k (k+1) aC _ cC cO q kk T1 e2 W' (HPv.out W' ho) (by omega) (by omega) ht0 (by omega) (by omega)
                    have HOK:Hid (e2≠0→v1≤W1→Sp.ok C O T1 W1 q kk=true):=fun h1 h2=>(ok_tf hD2).2.1 h1 (by rw [← hv1];exact h2)
                    have HS7:Hid (∀ W',Only (fun _=>False) X W'→((W'.cell? ⟨B5,0,none⟩=some (.slice aC k cC)∧W'.cell? ⟨B5,1,none⟩=some (.slice (some ⟨bo,oo,none⟩) (k+1) cO))∧(W'.cell? ⟨B6,0,none⟩=some (.int .i64 (W1:Int))∧W'.cell? ⟨B6,1,none⟩=some (.int .i64 (T1:Int))))∧W'.cell? ⟨bo,oo+kk,none⟩=some (.int .u8 (e2:Int))):=fun W' ho=>⟨⟨(HPC.out W' ho).1,(HPC.out W' ho).2.1,(HPC.out W' ho).2.2.1⟩,HCO.out W' ho kk e2 hO2⟩
                    clear hO2 hD2 hv1
                    by_cases he0:e2=0
                    · have t4:((e2:Int) != 0)=false:=by simp;omega
                      clear he0
                      go_wp2_with fail
                      refine wp_region_held_drew (S:=(fun W'=>((W'.cell? ⟨B5,0,none⟩=some (.slice aC k cC)∧W'.cell? ⟨B5,1,none⟩=some (.slice (some ⟨bo,oo,none⟩) (k+1) cO))∧(W'.cell? ⟨B6,0,none⟩=some (.int .i64 (W1:Int))∧W'.cell? ⟨B6,1,none⟩=some (.int .i64 (T1:Int))))∧W'.cell? ⟨bo,oo+kk,none⟩=some (.int .u8 (e2:Int)))) (by kernel_rfl) (HS7.out _ HZ.out.2.1.drew) (fun hHeld=>?_)
                      refine wpAnyH_take (i:=0) (oi:={ dst:=some 108,op:=_,type:=_,pos:=_,after:=_,guard:=_ }) (v:=.pointer (some ⟨B5,1,none⟩)) rfl (by kernel_rfl) (by kernel_rfl) (by kernel_rfl) (fun _ _ _ h=>h) (Or.inl ⟨by rfl,fun w hSw=>by obtain ⟨⟨⟨y0,y1⟩,y2,y3⟩,y4⟩:=hSw;first | (go_simp;done) | go_simp⟩) (by assumption) ?_
                      (try simp only [Act.put,List.setIfInBounds_toArray,List.set_cons_zero,List.set_cons_succ])
                      refine wpAnyH_take (i:=1) (oi:={ dst:=some 109,op:=_,type:=_,pos:=_,after:=_,guard:=_ }) (v:=.slice (some ⟨bo,oo,none⟩) (k+1) cO) rfl (by kernel_rfl) (by kernel_rfl) (by kernel_rfl) (fun _ _ _ h=>h) (Or.inl ⟨by rfl,fun w hSw=>by obtain ⟨⟨⟨y0,y1⟩,y2,y3⟩,y4⟩:=hSw;first | (go_simp;done) | go_simp⟩) (by assumption) ?_
                      (try simp only [Act.put,List.setIfInBounds_toArray,List.set_cons_zero,List.set_cons_succ])
                      refine wpAnyH_take (i:=2) (oi:={ dst:=some 110,op:=_,type:=_,pos:=_,after:=_,guard:=_ }) (v:=.int .i64 (kk:Int)) rfl (by kernel_rfl) (by kernel_rfl) (by kernel_rfl) (fun _ _ _ h=>h) (Or.inl ⟨by rfl,fun w hSw=>by obtain ⟨⟨⟨y0,y1⟩,y2,y3⟩,y4⟩:=hSw;first | (go_simp;done) | go_simp⟩) (by assumption) ?_
                      (try simp only [Act.put,List.setIfInBounds_toArray,List.set_cons_zero,List.set_cons_succ])
                      refine wpAnyH_take (i:=3) (oi:={ dst:=some 111,op:=_,type:=_,pos:=_,after:=_,guard:=_ }) (v:=.pointer (some ⟨bo,oo+kk,none⟩)) rfl (by kernel_rfl) (by kernel_rfl) (by kernel_rfl) (fun _ _ _ h=>h) (Or.inl ⟨by rfl,fun w hSw=>by obtain ⟨⟨⟨y0,y1⟩,y2,y3⟩,y4⟩:=hSw;first | (go_simp;done) | go_simp⟩) (by assumption) ?_
                      (try simp only [Act.put,List.setIfInBounds_toArray,List.set_cons_zero,List.set_cons_succ])
                      refine wpAnyH_take (i:=4) (oi:={ dst:=some 112,op:=_,type:=_,pos:=_,after:=_,guard:=_ }) (v:=.int .u8 (e2:Int)) rfl (by kernel_rfl) (by kernel_rfl) (by kernel_rfl) (fun _ _ _ h=>h) (Or.inl ⟨by rfl,fun w hSw=>by obtain ⟨⟨⟨y0,y1⟩,y2,y3⟩,y4⟩:=hSw;first | (go_simp;done) | go_simp⟩) (by assumption) ?_
                      (try simp only [Act.put,List.setIfInBounds_toArray,List.set_cons_zero,List.set_cons_succ])
                      refine wpAnyH_take (i:=5) (oi:={ dst:=some 113,op:=_,type:=_,pos:=_,after:=_,guard:=_ }) (v:=.bool false) rfl (by kernel_rfl) (by kernel_rfl) (by kernel_rfl) (fun _ _ _ h=>h) (Or.inl ⟨by rfl,fun w hSw=>by obtain ⟨⟨⟨y0,y1⟩,y2,y3⟩,y4⟩:=hSw;first | (go_simp;done) | go_simp⟩) (by assumption) ?_
                      (try simp only [Act.put,List.setIfInBounds_toArray,List.set_cons_zero,List.set_cons_succ])
                      refine wpAnyH_take (i:=6) (oi:={ dst:=some 114,op:=_,type:=_,pos:=_,after:=_,guard:=_ }) (v:=.bool false) rfl (by kernel_rfl) (by kernel_rfl) (by kernel_rfl) (fun _ _ _ h=>h) (Or.inl ⟨by rfl,fun w hSw=>by obtain ⟨⟨⟨y0,y1⟩,y2,y3⟩,y4⟩:=hSw;first | (go_simp;done) | go_simp⟩) (by assumption) ?_
                      (try simp only [Act.put,List.setIfInBounds_toArray,List.set_cons_zero,List.set_cons_succ])
                      refine wpAnyH_take (i:=7) (oi:={ dst:=some 115,op:=_,type:=_,pos:=_,after:=_,guard:=_ }) (v:=undef) rfl (by kernel_rfl) (by kernel_rfl) (by kernel_rfl) (fun _ _ _ h=>h) (Or.inr ⟨by rfl,rfl⟩) (by assumption) ?_
                      (try simp only [Act.put,List.setIfInBounds_toArray,List.set_cons_zero,List.set_cons_succ])
                      refine wpAnyH_take (i:=8) (oi:={ dst:=some 116,op:=_,type:=_,pos:=_,after:=_,guard:=_ }) (v:=undef) rfl (by kernel_rfl) (by kernel_rfl) (by kernel_rfl) (fun _ _ _ h=>h) (Or.inr ⟨by rfl,rfl⟩) (by assumption) ?_
                      (try simp only [Act.put,List.setIfInBounds_toArray,List.set_cons_zero,List.set_cons_succ])
                      refine wpAnyH_take (i:=9) (oi:={ dst:=some 117,op:=_,type:=_,pos:=_,after:=_,guard:=_ }) (v:=undef) rfl (by kernel_rfl) (by kernel_rfl) (by kernel_rfl) (fun _ _ _ h=>h) (Or.inr ⟨by rfl,rfl⟩) (by assumption) ?_
                      (try simp only [Act.put,List.setIfInBounds_toArray,List.set_cons_zero,List.set_cons_succ])
                      refine wpAnyH_take (i:=10) (oi:={ dst:=some 118,op:=_,type:=_,pos:=_,after:=_,guard:=_ }) (v:=undef) rfl (by kernel_rfl) (by kernel_rfl) (by kernel_rfl) (fun _ _ _ h=>h) (Or.inr ⟨by rfl,rfl⟩) (by assumption) ?_
                      (try simp only [Act.put,List.setIfInBounds_toArray,List.set_cons_zero,List.set_cons_succ])
                      refine wpAnyH_take (i:=11) (oi:={ dst:=some 119,op:=_,type:=_,pos:=_,after:=_,guard:=_ }) (v:=undef) rfl (by kernel_rfl) (by kernel_rfl) (by kernel_rfl) (fun _ _ _ h=>h) (Or.inr ⟨by rfl,rfl⟩) (by assumption) ?_
                      (try simp only [Act.put,List.setIfInBounds_toArray,List.set_cons_zero,List.set_cons_succ])
                      refine wpAnyH_take (i:=12) (oi:={ dst:=some 120,op:=_,type:=_,pos:=_,after:=_,guard:=_ }) (v:=undef) rfl (by kernel_rfl) (by kernel_rfl) (by kernel_rfl) (fun _ _ _ h=>h) (Or.inr ⟨by rfl,rfl⟩) (by assumption) ?_
                      (try simp only [Act.put,List.setIfInBounds_toArray,List.set_cons_zero,List.set_cons_succ])
                      refine wpAnyH_take (i:=13) (oi:={ dst:=some 121,op:=_,type:=_,pos:=_,after:=_,guard:=_ }) (v:=undef) rfl (by kernel_rfl) (by kernel_rfl) (by kernel_rfl) (fun _ _ _ h=>h) (Or.inr ⟨by rfl,rfl⟩) (by assumption) ?_
                      (try simp only [Act.put,List.setIfInBounds_toArray,List.set_cons_zero,List.set_cons_succ])
                      refine wpAnyH_take (i:=14) (oi:={ dst:=some 122,op:=_,type:=_,pos:=_,after:=_,guard:=_ }) (v:=undef) rfl (by kernel_rfl) (by kernel_rfl) (by kernel_rfl) (fun _ _ _ h=>h) (Or.inr ⟨by rfl,rfl⟩) (by assumption) ?_
                      (try simp only [Act.put,List.setIfInBounds_toArray,List.set_cons_zero,List.set_cons_succ])
                      refine wpAnyH_take (i:=15) (oi:={ dst:=some 123,op:=_,type:=_,pos:=_,after:=_,guard:=_ }) (v:=undef) rfl (by kernel_rfl) (by kernel_rfl) (by kernel_rfl) (fun _ _ _ h=>h) (Or.inr ⟨by rfl,rfl⟩) (by assumption) ?_
                      (try simp only [Act.put,List.setIfInBounds_toArray,List.set_cons_zero,List.set_cons_succ])
                      refine wpAnyH_take (i:=16) (oi:={ dst:=some 124,op:=_,type:=_,pos:=_,after:=_,guard:=_ }) (v:=undef) rfl (by kernel_rfl) (by kernel_rfl) (by kernel_rfl) (fun _ _ _ h=>h) (Or.inr ⟨by rfl,rfl⟩) (by assumption) ?_
                      (try simp only [Act.put,List.setIfInBounds_toArray,List.set_cons_zero,List.set_cons_succ])
                      refine wpAnyH_take (i:=17) (oi:={ dst:=some 125,op:=_,type:=_,pos:=_,after:=_,guard:=_ }) (v:=undef) rfl (by kernel_rfl) (by kernel_rfl) (by kernel_rfl) (fun _ _ _ h=>h) (Or.inr ⟨by rfl,rfl⟩) (by assumption) ?_
                      (try simp only [Act.put,List.setIfInBounds_toArray,List.set_cons_zero,List.set_cons_succ])
                      refine wpAnyH_take (i:=18) (oi:={ dst:=some 126,op:=_,type:=_,pos:=_,after:=_,guard:=_ }) (v:=undef) rfl (by kernel_rfl) (by kernel_rfl) (by kernel_rfl) (fun _ _ _ h=>h) (Or.inr ⟨by rfl,rfl⟩) (by assumption) ?_
                      (try simp only [Act.put,List.setIfInBounds_toArray,List.set_cons_zero,List.set_cons_succ])
                      refine wpAnyH_take (i:=19) (oi:={ dst:=some 127,op:=_,type:=_,pos:=_,after:=_,guard:=_ }) (v:=undef) rfl (by kernel_rfl) (by kernel_rfl) (by kernel_rfl) (fun _ _ _ h=>h) (Or.inr ⟨by rfl,rfl⟩) (by assumption) ?_
                      (try simp only [Act.put,List.setIfInBounds_toArray,List.set_cons_zero,List.set_cons_succ])
                      refine wpAnyH_take (i:=20) (oi:={ dst:=some 128,op:=_,type:=_,pos:=_,after:=_,guard:=_ }) (v:=undef) rfl (by kernel_rfl) (by kernel_rfl) (by kernel_rfl) (fun _ _ _ h=>h) (Or.inr ⟨by rfl,rfl⟩) (by assumption) ?_
                      (try simp only [Act.put,List.setIfInBounds_toArray,List.set_cons_zero,List.set_cons_succ])
                      refine wpAnyH_take (i:=21) (oi:={ dst:=some 129,op:=_,type:=_,pos:=_,after:=_,guard:=_ }) (v:=.bool false) rfl (by kernel_rfl) (by kernel_rfl) (by kernel_rfl) (fun _ _ _ h=>h) (Or.inl ⟨by rfl,fun w hSw=>by obtain ⟨⟨⟨y0,y1⟩,y2,y3⟩,y4⟩:=hSw;first | (go_simp;done) | go_simp⟩) (by assumption) ?_
                      (try simp only [Act.put,List.setIfInBounds_toArray,List.set_cons_zero,List.set_cons_succ])
                      refine wpAnyH_take (i:=22) (oi:={ dst:=some 14,op:=_,type:=_,pos:=_,after:=_,guard:=_ }) (v:=.bool false) rfl (by kernel_rfl) (by kernel_rfl) (by kernel_rfl) (fun _ _ _ h=>h) (Or.inl ⟨by rfl,fun w hSw=>by obtain ⟨⟨⟨y0,y1⟩,y2,y3⟩,y4⟩:=hSw;first | (go_simp;done) | go_simp⟩) (by assumption) ?_
                      (try simp only [Act.put,List.setIfInBounds_toArray,List.set_cons_zero,List.set_cons_succ])
                      refine wpAnyH_done (by kernel_rfl) ?_ _
                      clear hHeld
                      go_wp2_with fail
                      go_roundg (x+1 - (kk+1))
                      case measure=>omega
                      case rel=>exact ⟨kk+1,_,rfl,rfl,by omega,by omega,by go_num,HZ.out.2.2.2.drew⟩
                    · have t4:((e2:Int) != 0)=true:=by simp;omega
                      by_cases hw1:v1≤W1
                      · have t5:(v1:Int)≤(W1:Int):=by omega
                        have hsy:=HSY.out.1.1 kk hkk1 hkx (HOK.out he0 hw1)
                        have t6:decide ((x1:Int) < (kk:Int))=false:=decide_eq_false (by have:=hsy.2;omega)
                        have t7:kk≤x1:=hsy.2
                        clear he0 hsy
                        go_wp2_with fail
                        refine wp_region_held_drew (S:=(fun W'=>((W'.cell? ⟨B5,0,none⟩=some (.slice aC k cC)∧W'.cell? ⟨B5,1,none⟩=some (.slice (some ⟨bo,oo,none⟩) (k+1) cO))∧(W'.cell? ⟨B6,0,none⟩=some (.int .i64 (W1:Int))∧W'.cell? ⟨B6,1,none⟩=some (.int .i64 (T1:Int))))∧W'.cell? ⟨bo,oo+kk,none⟩=some (.int .u8 (e2:Int)))) (by kernel_rfl) (HS7.out _ HZ.out.2.1.drew) (fun hHeld=>?_)
                        refine wpAnyH_take (i:=0) (oi:={ dst:=some 108,op:=_,type:=_,pos:=_,after:=_,guard:=_ }) (v:=.pointer (some ⟨B5,1,none⟩)) rfl (by kernel_rfl) (by kernel_rfl) (by kernel_rfl) (fun _ _ _ h=>h) (Or.inl ⟨by rfl,fun w hSw=>by obtain ⟨⟨⟨y0,y1⟩,y2,y3⟩,y4⟩:=hSw;first | (go_simp;done) | go_simp⟩) (by assumption) ?_
                        (try simp only [Act.put,List.setIfInBounds_toArray,List.set_cons_zero,List.set_cons_succ])
                        refine wpAnyH_take (i:=1) (oi:={ dst:=some 109,op:=_,type:=_,pos:=_,after:=_,guard:=_ }) (v:=.slice (some ⟨bo,oo,none⟩) (k+1) cO) rfl (by kernel_rfl) (by kernel_rfl) (by kernel_rfl) (fun _ _ _ h=>h) (Or.inl ⟨by rfl,fun w hSw=>by obtain ⟨⟨⟨y0,y1⟩,y2,y3⟩,y4⟩:=hSw;first | (go_simp;done) | go_simp⟩) (by assumption) ?_
                        (try simp only [Act.put,List.setIfInBounds_toArray,List.set_cons_zero,List.set_cons_succ])
                        refine wpAnyH_take (i:=2) (oi:={ dst:=some 110,op:=_,type:=_,pos:=_,after:=_,guard:=_ }) (v:=.int .i64 (kk:Int)) rfl (by kernel_rfl) (by kernel_rfl) (by kernel_rfl) (fun _ _ _ h=>h) (Or.inl ⟨by rfl,fun w hSw=>by obtain ⟨⟨⟨y0,y1⟩,y2,y3⟩,y4⟩:=hSw;first | (go_simp;done) | go_simp⟩) (by assumption) ?_
                        (try simp only [Act.put,List.setIfInBounds_toArray,List.set_cons_zero,List.set_cons_succ])
                        refine wpAnyH_take (i:=3) (oi:={ dst:=some 111,op:=_,type:=_,pos:=_,after:=_,guard:=_ }) (v:=.pointer (some ⟨bo,oo+kk,none⟩)) rfl (by kernel_rfl) (by kernel_rfl) (by kernel_rfl) (fun _ _ _ h=>h) (Or.inl ⟨by rfl,fun w hSw=>by obtain ⟨⟨⟨y0,y1⟩,y2,y3⟩,y4⟩:=hSw;first | (go_simp;done) | go_simp⟩) (by assumption) ?_
                        (try simp only [Act.put,List.setIfInBounds_toArray,List.set_cons_zero,List.set_cons_succ])
                        refine wpAnyH_take (i:=4) (oi:={ dst:=some 112,op:=_,type:=_,pos:=_,after:=_,guard:=_ }) (v:=.int .u8 (e2:Int)) rfl (by kernel_rfl) (by kernel_rfl) (by kernel_rfl) (fun _ _ _ h=>h) (Or.inl ⟨by rfl,fun w hSw=>by obtain ⟨⟨⟨y0,y1⟩,y2,y3⟩,y4⟩:=hSw;first | (go_simp;done) | go_simp⟩) (by assumption) ?_
                        (try simp only [Act.put,List.setIfInBounds_toArray,List.set_cons_zero,List.set_cons_succ])
                        refine wpAnyH_take (i:=5) (oi:={ dst:=some 113,op:=_,type:=_,pos:=_,after:=_,guard:=_ }) (v:=.bool true) rfl (by kernel_rfl) (by kernel_rfl) (by kernel_rfl) (fun _ _ _ h=>h) (Or.inl ⟨by rfl,fun w hSw=>by obtain ⟨⟨⟨y0,y1⟩,y2,y3⟩,y4⟩:=hSw;first | (go_simp;done) | go_simp⟩) (by assumption) ?_
                        (try simp only [Act.put,List.setIfInBounds_toArray,List.set_cons_zero,List.set_cons_succ])
                        refine wpAnyH_take (i:=6) (oi:={ dst:=some 114,op:=_,type:=_,pos:=_,after:=_,guard:=_ }) (v:=.bool true) rfl (by kernel_rfl) (by kernel_rfl) (by kernel_rfl) (fun _ _ _ h=>h) (Or.inl ⟨by rfl,fun w hSw=>by obtain ⟨⟨⟨y0,y1⟩,y2,y3⟩,y4⟩:=hSw;first | (go_simp;done) | go_simp⟩) (by assumption) ?_
                        (try simp only [Act.put,List.setIfInBounds_toArray,List.set_cons_zero,List.set_cons_succ])
                        refine wpAnyH_take (i:=7) (oi:={ dst:=some 115,op:=_,type:=_,pos:=_,after:=_,guard:=_ }) (v:=.agg #[.slice aC k cC,.slice (some ⟨bo,oo,none⟩) (k+1) cO]) rfl (by kernel_rfl) (by kernel_rfl) (by kernel_rfl) (fun _ _ _ h=>h) (Or.inl ⟨by rfl,fun w hSw=>by obtain ⟨⟨⟨y0,y1⟩,y2,y3⟩,y4⟩:=hSw;first | (go_simp;done) | go_simp⟩) (by assumption) ?_
                        (try simp only [Act.put,List.setIfInBounds_toArray,List.set_cons_zero,List.set_cons_succ])
                        refine wpAnyH_take (i:=8) (oi:={ dst:=some 116,op:=_,type:=_,pos:=_,after:=_,guard:=_ }) (v:=.int .i64 (q:Int)) rfl (by kernel_rfl) (by kernel_rfl) (by kernel_rfl) (fun _ _ _ h=>h) (Or.inl ⟨by rfl,fun w hSw=>by obtain ⟨⟨⟨y0,y1⟩,y2,y3⟩,y4⟩:=hSw;first | (go_simp;done) | go_simp⟩) (by assumption) ?_
                        (try simp only [Act.put,List.setIfInBounds_toArray,List.set_cons_zero,List.set_cons_succ])
                        refine wpAnyH_take (i:=9) (oi:={ dst:=some 117,op:=_,type:=_,pos:=_,after:=_,guard:=_ }) (v:=.int .i64 (kk:Int)) rfl (by kernel_rfl) (by kernel_rfl) (by kernel_rfl) (fun _ _ _ h=>h) (Or.inl ⟨by rfl,fun w hSw=>by obtain ⟨⟨⟨y0,y1⟩,y2,y3⟩,y4⟩:=hSw;first | (go_simp;done) | go_simp⟩) (by assumption) ?_
                        (try simp only [Act.put,List.setIfInBounds_toArray,List.set_cons_zero,List.set_cons_succ])
                        refine wpAnyH_take (i:=10) (oi:={ dst:=some 118,op:=_,type:=_,pos:=_,after:=_,guard:=_ }) (v:=.pointer (some ⟨B5,1,none⟩)) rfl (by kernel_rfl) (by kernel_rfl) (by kernel_rfl) (fun _ _ _ h=>h) (Or.inl ⟨by rfl,fun w hSw=>by obtain ⟨⟨⟨y0,y1⟩,y2,y3⟩,y4⟩:=hSw;first | (go_simp;done) | go_simp⟩) (by assumption) ?_
                        (try simp only [Act.put,List.setIfInBounds_toArray,List.set_cons_zero,List.set_cons_succ])
                        refine wpAnyH_take (i:=11) (oi:={ dst:=some 119,op:=_,type:=_,pos:=_,after:=_,guard:=_ }) (v:=.slice (some ⟨bo,oo,none⟩) (k+1) cO) rfl (by kernel_rfl) (by kernel_rfl) (by kernel_rfl) (fun _ _ _ h=>h) (Or.inl ⟨by rfl,fun w hSw=>by obtain ⟨⟨⟨y0,y1⟩,y2,y3⟩,y4⟩:=hSw;first | (go_simp;done) | go_simp⟩) (by assumption) ?_
                        (try simp only [Act.put,List.setIfInBounds_toArray,List.set_cons_zero,List.set_cons_succ])
                        refine wpAnyH_take (i:=12) (oi:={ dst:=some 120,op:=_,type:=_,pos:=_,after:=_,guard:=_ }) (v:=.int .i64 (kk:Int)) rfl (by kernel_rfl) (by kernel_rfl) (by kernel_rfl) (fun _ _ _ h=>h) (Or.inl ⟨by rfl,fun w hSw=>by obtain ⟨⟨⟨y0,y1⟩,y2,y3⟩,y4⟩:=hSw;first | (go_simp;done) | go_simp⟩) (by assumption) ?_
                        (try simp only [Act.put,List.setIfInBounds_toArray,List.set_cons_zero,List.set_cons_succ])
                        refine wpAnyH_take (i:=13) (oi:={ dst:=some 121,op:=_,type:=_,pos:=_,after:=_,guard:=_ }) (v:=.pointer (some ⟨bo,oo+kk,none⟩)) rfl (by kernel_rfl) (by kernel_rfl) (by kernel_rfl) (fun _ _ _ h=>h) (Or.inl ⟨by rfl,fun w hSw=>by obtain ⟨⟨⟨y0,y1⟩,y2,y3⟩,y4⟩:=hSw;first | (go_simp;done) | go_simp⟩) (by assumption) ?_
                        (try simp only [Act.put,List.setIfInBounds_toArray,List.set_cons_zero,List.set_cons_succ])
                        refine wpAnyH_take (i:=14) (oi:={ dst:=some 122,op:=_,type:=_,pos:=_,after:=_,guard:=_ }) (v:=.int .u8 (e2:Int)) rfl (by kernel_rfl) (by kernel_rfl) (by kernel_rfl) (fun _ _ _ h=>h) (Or.inl ⟨by rfl,fun w hSw=>by obtain ⟨⟨⟨y0,y1⟩,y2,y3⟩,y4⟩:=hSw;first | (go_simp;done) | go_simp⟩) (by assumption) ?_
                        (try simp only [Act.put,List.setIfInBounds_toArray,List.set_cons_zero,List.set_cons_succ])
                        refine wpAnyH_take (i:=15) (oi:={ dst:=some 123,op:=_,type:=_,pos:=_,after:=_,guard:=_ }) (v:=.pointer (some ⟨B6,1,none⟩)) rfl (by kernel_rfl) (by kernel_rfl) (by kernel_rfl) (fun _ _ _ h=>h) (Or.inl ⟨by rfl,fun w hSw=>by obtain ⟨⟨⟨y0,y1⟩,y2,y3⟩,y4⟩:=hSw;first | (go_simp;done) | go_simp⟩) (by assumption) ?_
                        (try simp only [Act.put,List.setIfInBounds_toArray,List.set_cons_zero,List.set_cons_succ])
                        refine wpAnyH_take (i:=16) (oi:={ dst:=some 124,op:=_,type:=_,pos:=_,after:=_,guard:=_ }) (v:=.int .i64 (T1:Int)) rfl (by kernel_rfl) (by kernel_rfl) (by kernel_rfl) (fun _ _ _ h=>h) (Or.inl ⟨by rfl,fun w hSw=>by obtain ⟨⟨⟨y0,y1⟩,y2,y3⟩,y4⟩:=hSw;first | (go_simp;done) | go_simp⟩) (by assumption) ?_
                        (try simp only [Act.put,List.setIfInBounds_toArray,List.set_cons_zero,List.set_cons_succ])
                        refine wpAnyH_take (i:=18) (oi:={ dst:=some 126,op:=_,type:=_,pos:=_,after:=_,guard:=_ }) (v:=.pointer (some ⟨B6,0,none⟩)) rfl (by kernel_rfl) (by kernel_rfl) (by kernel_rfl) (fun _ _ _ h=>h) (Or.inl ⟨by rfl,fun w hSw=>by obtain ⟨⟨⟨y0,y1⟩,y2,y3⟩,y4⟩:=hSw;first | (go_simp;done) | go_simp⟩) (by assumption) ?_
                        (try simp only [Act.put,List.setIfInBounds_toArray,List.set_cons_zero,List.set_cons_succ])
                        refine wpAnyH_take (i:=19) (oi:={ dst:=some 127,op:=_,type:=_,pos:=_,after:=_,guard:=_ }) (v:=.int .i64 (W1:Int)) rfl (by kernel_rfl) (by kernel_rfl) (by kernel_rfl) (fun _ _ _ h=>h) (Or.inl ⟨by rfl,fun w hSw=>by obtain ⟨⟨⟨y0,y1⟩,y2,y3⟩,y4⟩:=hSw;first | (go_simp;done) | go_simp⟩) (by assumption) ?_
                        (try simp only [Act.put,List.setIfInBounds_toArray,List.set_cons_zero,List.set_cons_succ])
                        refine wpAnyH_ready (rs:=[17]) (by kernel_rfl) (by simp) ?_
                        refine AllReadyH.cons rfl (fun K hK=>?_) AllReadyH.nil
                        rw [if_pos (by rfl)]
                        go_simp
                        refine Calls.mono (HC1.out _ HZ.out.2.1.drew) ?_
                        rintro r w3 ⟨rfl,ho3⟩
                        have H3:Hid (Only (fun _=>False) Ud w3∧Only (fun _=>False) X w3∧Only (fun _=>False) U1 w3):=⟨HZ.out.2.2.2.drew.trans ho3,HZ.out.2.1.drew.trans ho3,HZ.out.2.2.1.drew.trans ho3⟩
                        clear ho3
                        refine hK.out _ _ (HS7.out _ H3.out.2.1) (fun hHeld=>?_)
                        clear hK
                        (try simp only [Act.put,List.setIfInBounds_toArray,List.set_cons_zero,List.set_cons_succ])
                        refine wpAnyH_take (i:=20) (oi:={ dst:=some 128,op:=_,type:=_,pos:=_,after:=_,guard:=_ }) (v:=.bool true) rfl (by kernel_rfl) (by kernel_rfl) (by kernel_rfl) (fun _ _ _ h=>h) (Or.inl ⟨by rfl,fun w hSw=>by obtain ⟨⟨⟨y0,y1⟩,y2,y3⟩,y4⟩:=hSw;first | (go_simp;done) | go_simp⟩) (by assumption) ?_
                        (try simp only [Act.put,List.setIfInBounds_toArray,List.set_cons_zero,List.set_cons_succ])
                        refine wpAnyH_take (i:=21) (oi:={ dst:=some 129,op:=_,type:=_,pos:=_,after:=_,guard:=_ }) (v:=.bool true) rfl (by kernel_rfl) (by kernel_rfl) (by kernel_rfl) (fun _ _ _ h=>h) (Or.inl ⟨by rfl,fun w hSw=>by obtain ⟨⟨⟨y0,y1⟩,y2,y3⟩,y4⟩:=hSw;first | (go_simp;done) | go_simp⟩) (by assumption) ?_
                        (try simp only [Act.put,List.setIfInBounds_toArray,List.set_cons_zero,List.set_cons_succ])
                        refine wpAnyH_take (i:=22) (oi:={ dst:=some 14,op:=_,type:=_,pos:=_,after:=_,guard:=_ }) (v:=.bool true) rfl (by kernel_rfl) (by kernel_rfl) (by kernel_rfl) (fun _ _ _ h=>h) (Or.inl ⟨by rfl,fun w hSw=>by obtain ⟨⟨⟨y0,y1⟩,y2,y3⟩,y4⟩:=hSw;first | (go_simp;done) | go_simp⟩) (by assumption) ?_
                        (try simp only [Act.put,List.setIfInBounds_toArray,List.set_cons_zero,List.set_cons_succ])
                        refine wpAnyH_done (by kernel_rfl) ?_ _
                        clear hHeld
                        obtain ⟨f0',f1',f2',f3',fL'⟩:=HXC.out w3 H3.out.2.2
                        go_wp2_with fail
                        go_roundg (x+1 - (kk+1))
                        case measure=>omega
                        case rel=>exact ⟨kk+1,_,rfl,rfl,by omega,by omega,by go_num,H3.out.1⟩
                      · have t5:decide ((v1:Int)≤(W1:Int))=false:=decide_eq_false (by omega)
                        clear he0
                        go_wp2_with fail
                        refine wp_region_held_drew (S:=(fun W'=>((W'.cell? ⟨B5,0,none⟩=some (.slice aC k cC)∧W'.cell? ⟨B5,1,none⟩=some (.slice (some ⟨bo,oo,none⟩) (k+1) cO))∧(W'.cell? ⟨B6,0,none⟩=some (.int .i64 (W1:Int))∧W'.cell? ⟨B6,1,none⟩=some (.int .i64 (T1:Int))))∧W'.cell? ⟨bo,oo+kk,none⟩=some (.int .u8 (e2:Int)))) (by kernel_rfl) (HS7.out _ HZ.out.2.1.drew) (fun hHeld=>?_)
                        refine wpAnyH_take (i:=0) (oi:={ dst:=some 108,op:=_,type:=_,pos:=_,after:=_,guard:=_ }) (v:=.pointer (some ⟨B5,1,none⟩)) rfl (by kernel_rfl) (by kernel_rfl) (by kernel_rfl) (fun _ _ _ h=>h) (Or.inl ⟨by rfl,fun w hSw=>by obtain ⟨⟨⟨y0,y1⟩,y2,y3⟩,y4⟩:=hSw;first | (go_simp;done) | go_simp⟩) (by assumption) ?_
                        (try simp only [Act.put,List.setIfInBounds_toArray,List.set_cons_zero,List.set_cons_succ])
                        refine wpAnyH_take (i:=1) (oi:={ dst:=some 109,op:=_,type:=_,pos:=_,after:=_,guard:=_ }) (v:=.slice (some ⟨bo,oo,none⟩) (k+1) cO) rfl (by kernel_rfl) (by kernel_rfl) (by kernel_rfl) (fun _ _ _ h=>h) (Or.inl ⟨by rfl,fun w hSw=>by obtain ⟨⟨⟨y0,y1⟩,y2,y3⟩,y4⟩:=hSw;first | (go_simp;done) | go_simp⟩) (by assumption) ?_
                        (try simp only [Act.put,List.setIfInBounds_toArray,List.set_cons_zero,List.set_cons_succ])
                        refine wpAnyH_take (i:=2) (oi:={ dst:=some 110,op:=_,type:=_,pos:=_,after:=_,guard:=_ }) (v:=.int .i64 (kk:Int)) rfl (by kernel_rfl) (by kernel_rfl) (by kernel_rfl) (fun _ _ _ h=>h) (Or.inl ⟨by rfl,fun w hSw=>by obtain ⟨⟨⟨y0,y1⟩,y2,y3⟩,y4⟩:=hSw;first | (go_simp;done) | go_simp⟩) (by assumption) ?_
                        (try simp only [Act.put,List.setIfInBounds_toArray,List.set_cons_zero,List.set_cons_succ])
                        refine wpAnyH_take (i:=3) (oi:={ dst:=some 111,op:=_,type:=_,pos:=_,after:=_,guard:=_ }) (v:=.pointer (some ⟨bo,oo+kk,none⟩)) rfl (by kernel_rfl) (by kernel_rfl) (by kernel_rfl) (fun _ _ _ h=>h) (Or.inl ⟨by rfl,fun w hSw=>by obtain ⟨⟨⟨y0,y1⟩,y2,y3⟩,y4⟩:=hSw;first | (go_simp;done) | go_simp⟩) (by assumption) ?_
                        (try simp only [Act.put,List.setIfInBounds_toArray,List.set_cons_zero,List.set_cons_succ])
                        refine wpAnyH_take (i:=4) (oi:={ dst:=some 112,op:=_,type:=_,pos:=_,after:=_,guard:=_ }) (v:=.int .u8 (e2:Int)) rfl (by kernel_rfl) (by kernel_rfl) (by kernel_rfl) (fun _ _ _ h=>h) (Or.inl ⟨by rfl,fun w hSw=>by obtain ⟨⟨⟨y0,y1⟩,y2,y3⟩,y4⟩:=hSw;first | (go_simp;done) | go_simp⟩) (by assumption) ?_
                        (try simp only [Act.put,List.setIfInBounds_toArray,List.set_cons_zero,List.set_cons_succ])
                        refine wpAnyH_take (i:=5) (oi:={ dst:=some 113,op:=_,type:=_,pos:=_,after:=_,guard:=_ }) (v:=.bool true) rfl (by kernel_rfl) (by kernel_rfl) (by kernel_rfl) (fun _ _ _ h=>h) (Or.inl ⟨by rfl,fun w hSw=>by obtain ⟨⟨⟨y0,y1⟩,y2,y3⟩,y4⟩:=hSw;first | (go_simp;done) | go_simp⟩) (by assumption) ?_
                        (try simp only [Act.put,List.setIfInBounds_toArray,List.set_cons_zero,List.set_cons_succ])
                        refine wpAnyH_take (i:=6) (oi:={ dst:=some 114,op:=_,type:=_,pos:=_,after:=_,guard:=_ }) (v:=.bool true) rfl (by kernel_rfl) (by kernel_rfl) (by kernel_rfl) (fun _ _ _ h=>h) (Or.inl ⟨by rfl,fun w hSw=>by obtain ⟨⟨⟨y0,y1⟩,y2,y3⟩,y4⟩:=hSw;first | (go_simp;done) | go_simp⟩) (by assumption) ?_
                        (try simp only [Act.put,List.setIfInBounds_toArray,List.set_cons_zero,List.set_cons_succ])
                        refine wpAnyH_take (i:=7) (oi:={ dst:=some 115,op:=_,type:=_,pos:=_,after:=_,guard:=_ }) (v:=.agg #[.slice aC k cC,.slice (some ⟨bo,oo,none⟩) (k+1) cO]) rfl (by kernel_rfl) (by kernel_rfl) (by kernel_rfl) (fun _ _ _ h=>h) (Or.inl ⟨by rfl,fun w hSw=>by obtain ⟨⟨⟨y0,y1⟩,y2,y3⟩,y4⟩:=hSw;first | (go_simp;done) | go_simp⟩) (by assumption) ?_
                        (try simp only [Act.put,List.setIfInBounds_toArray,List.set_cons_zero,List.set_cons_succ])
                        refine wpAnyH_take (i:=8) (oi:={ dst:=some 116,op:=_,type:=_,pos:=_,after:=_,guard:=_ }) (v:=.int .i64 (q:Int)) rfl (by kernel_rfl) (by kernel_rfl) (by kernel_rfl) (fun _ _ _ h=>h) (Or.inl ⟨by rfl,fun w hSw=>by obtain ⟨⟨⟨y0,y1⟩,y2,y3⟩,y4⟩:=hSw;first | (go_simp;done) | go_simp⟩) (by assumption) ?_
                        (try simp only [Act.put,List.setIfInBounds_toArray,List.set_cons_zero,List.set_cons_succ])
                        refine wpAnyH_take (i:=9) (oi:={ dst:=some 117,op:=_,type:=_,pos:=_,after:=_,guard:=_ }) (v:=.int .i64 (kk:Int)) rfl (by kernel_rfl) (by kernel_rfl) (by kernel_rfl) (fun _ _ _ h=>h) (Or.inl ⟨by rfl,fun w hSw=>by obtain ⟨⟨⟨y0,y1⟩,y2,y3⟩,y4⟩:=hSw;first | (go_simp;done) | go_simp⟩) (by assumption) ?_
                        (try simp only [Act.put,List.setIfInBounds_toArray,List.set_cons_zero,List.set_cons_succ])
                        refine wpAnyH_take (i:=10) (oi:={ dst:=some 118,op:=_,type:=_,pos:=_,after:=_,guard:=_ }) (v:=.pointer (some ⟨B5,1,none⟩)) rfl (by kernel_rfl) (by kernel_rfl) (by kernel_rfl) (fun _ _ _ h=>h) (Or.inl ⟨by rfl,fun w hSw=>by obtain ⟨⟨⟨y0,y1⟩,y2,y3⟩,y4⟩:=hSw;first | (go_simp;done) | go_simp⟩) (by assumption) ?_
                        (try simp only [Act.put,List.setIfInBounds_toArray,List.set_cons_zero,List.set_cons_succ])
                        refine wpAnyH_take (i:=11) (oi:={ dst:=some 119,op:=_,type:=_,pos:=_,after:=_,guard:=_ }) (v:=.slice (some ⟨bo,oo,none⟩) (k+1) cO) rfl (by kernel_rfl) (by kernel_rfl) (by kernel_rfl) (fun _ _ _ h=>h) (Or.inl ⟨by rfl,fun w hSw=>by obtain ⟨⟨⟨y0,y1⟩,y2,y3⟩,y4⟩:=hSw;first | (go_simp;done) | go_simp⟩) (by assumption) ?_
                        (try simp only [Act.put,List.setIfInBounds_toArray,List.set_cons_zero,List.set_cons_succ])
                        refine wpAnyH_take (i:=12) (oi:={ dst:=some 120,op:=_,type:=_,pos:=_,after:=_,guard:=_ }) (v:=.int .i64 (kk:Int)) rfl (by kernel_rfl) (by kernel_rfl) (by kernel_rfl) (fun _ _ _ h=>h) (Or.inl ⟨by rfl,fun w hSw=>by obtain ⟨⟨⟨y0,y1⟩,y2,y3⟩,y4⟩:=hSw;first | (go_simp;done) | go_simp⟩) (by assumption) ?_
                        (try simp only [Act.put,List.setIfInBounds_toArray,List.set_cons_zero,List.set_cons_succ])
                        refine wpAnyH_take (i:=13) (oi:={ dst:=some 121,op:=_,type:=_,pos:=_,after:=_,guard:=_ }) (v:=.pointer (some ⟨bo,oo+kk,none⟩)) rfl (by kernel_rfl) (by kernel_rfl) (by kernel_rfl) (fun _ _ _ h=>h) (Or.inl ⟨by rfl,fun w hSw=>by obtain ⟨⟨⟨y0,y1⟩,y2,y3⟩,y4⟩:=hSw;first | (go_simp;done) | go_simp⟩) (by assumption) ?_
                        (try simp only [Act.put,List.setIfInBounds_toArray,List.set_cons_zero,List.set_cons_succ])
                        refine wpAnyH_take (i:=14) (oi:={ dst:=some 122,op:=_,type:=_,pos:=_,after:=_,guard:=_ }) (v:=.int .u8 (e2:Int)) rfl (by kernel_rfl) (by kernel_rfl) (by kernel_rfl) (fun _ _ _ h=>h) (Or.inl ⟨by rfl,fun w hSw=>by obtain ⟨⟨⟨y0,y1⟩,y2,y3⟩,y4⟩:=hSw;first | (go_simp;done) | go_simp⟩) (by assumption) ?_
                        (try simp only [Act.put,List.setIfInBounds_toArray,List.set_cons_zero,List.set_cons_succ])
                        refine wpAnyH_take (i:=15) (oi:={ dst:=some 123,op:=_,type:=_,pos:=_,after:=_,guard:=_ }) (v:=.pointer (some ⟨B6,1,none⟩)) rfl (by kernel_rfl) (by kernel_rfl) (by kernel_rfl) (fun _ _ _ h=>h) (Or.inl ⟨by rfl,fun w hSw=>by obtain ⟨⟨⟨y0,y1⟩,y2,y3⟩,y4⟩:=hSw;first | (go_simp;done) | go_simp⟩) (by assumption) ?_
                        (try simp only [Act.put,List.setIfInBounds_toArray,List.set_cons_zero,List.set_cons_succ])
                        refine wpAnyH_take (i:=16) (oi:={ dst:=some 124,op:=_,type:=_,pos:=_,after:=_,guard:=_ }) (v:=.int .i64 (T1:Int)) rfl (by kernel_rfl) (by kernel_rfl) (by kernel_rfl) (fun _ _ _ h=>h) (Or.inl ⟨by rfl,fun w hSw=>by obtain ⟨⟨⟨y0,y1⟩,y2,y3⟩,y4⟩:=hSw;first | (go_simp;done) | go_simp⟩) (by assumption) ?_
                        (try simp only [Act.put,List.setIfInBounds_toArray,List.set_cons_zero,List.set_cons_succ])
                        refine wpAnyH_take (i:=18) (oi:={ dst:=some 126,op:=_,type:=_,pos:=_,after:=_,guard:=_ }) (v:=.pointer (some ⟨B6,0,none⟩)) rfl (by kernel_rfl) (by kernel_rfl) (by kernel_rfl) (fun _ _ _ h=>h) (Or.inl ⟨by rfl,fun w hSw=>by obtain ⟨⟨⟨y0,y1⟩,y2,y3⟩,y4⟩:=hSw;first | (go_simp;done) | go_simp⟩) (by assumption) ?_
                        (try simp only [Act.put,List.setIfInBounds_toArray,List.set_cons_zero,List.set_cons_succ])
                        refine wpAnyH_take (i:=19) (oi:={ dst:=some 127,op:=_,type:=_,pos:=_,after:=_,guard:=_ }) (v:=.int .i64 (W1:Int)) rfl (by kernel_rfl) (by kernel_rfl) (by kernel_rfl) (fun _ _ _ h=>h) (Or.inl ⟨by rfl,fun w hSw=>by obtain ⟨⟨⟨y0,y1⟩,y2,y3⟩,y4⟩:=hSw;first | (go_simp;done) | go_simp⟩) (by assumption) ?_
                        (try simp only [Act.put,List.setIfInBounds_toArray,List.set_cons_zero,List.set_cons_succ])
                        refine wpAnyH_ready (rs:=[17]) (by kernel_rfl) (by simp) ?_
                        refine AllReadyH.cons rfl (fun K hK=>?_) AllReadyH.nil
                        rw [if_pos (by rfl)]
                        go_simp
                        refine Calls.mono (HC1.out _ HZ.out.2.1.drew) ?_
                        rintro r w3 ⟨rfl,ho3⟩
                        have H3:Hid (Only (fun _=>False) Ud w3∧Only (fun _=>False) X w3∧Only (fun _=>False) U1 w3):=⟨HZ.out.2.2.2.drew.trans ho3,HZ.out.2.1.drew.trans ho3,HZ.out.2.2.1.drew.trans ho3⟩
                        clear ho3
                        refine hK.out _ _ (HS7.out _ H3.out.2.1) (fun hHeld=>?_)
                        clear hK
                        (try simp only [Act.put,List.setIfInBounds_toArray,List.set_cons_zero,List.set_cons_succ])
                        refine wpAnyH_take (i:=20) (oi:={ dst:=some 128,op:=_,type:=_,pos:=_,after:=_,guard:=_ }) (v:=.bool false) rfl (by kernel_rfl) (by kernel_rfl) (by kernel_rfl) (fun _ _ _ h=>h) (Or.inl ⟨by rfl,fun w hSw=>by obtain ⟨⟨⟨y0,y1⟩,y2,y3⟩,y4⟩:=hSw;first | (go_simp;done) | go_simp⟩) (by assumption) ?_
                        (try simp only [Act.put,List.setIfInBounds_toArray,List.set_cons_zero,List.set_cons_succ])
                        refine wpAnyH_take (i:=21) (oi:={ dst:=some 129,op:=_,type:=_,pos:=_,after:=_,guard:=_ }) (v:=.bool false) rfl (by kernel_rfl) (by kernel_rfl) (by kernel_rfl) (fun _ _ _ h=>h) (Or.inl ⟨by rfl,fun w hSw=>by obtain ⟨⟨⟨y0,y1⟩,y2,y3⟩,y4⟩:=hSw;first | (go_simp;done) | go_simp⟩) (by assumption) ?_
                        (try simp only [Act.put,List.setIfInBounds_toArray,List.set_cons_zero,List.set_cons_succ])
                        refine wpAnyH_take (i:=22) (oi:={ dst:=some 14,op:=_,type:=_,pos:=_,after:=_,guard:=_ }) (v:=.bool false) rfl (by kernel_rfl) (by kernel_rfl) (by kernel_rfl) (fun _ _ _ h=>h) (Or.inl ⟨by rfl,fun w hSw=>by obtain ⟨⟨⟨y0,y1⟩,y2,y3⟩,y4⟩:=hSw;first | (go_simp;done) | go_simp⟩) (by assumption) ?_
                        (try simp only [Act.put,List.setIfInBounds_toArray,List.set_cons_zero,List.set_cons_succ])
                        refine wpAnyH_done (by kernel_rfl) ?_ _
                        clear hHeld
                        go_wp2_with fail
                        go_roundg (x+1 - (kk+1))
                        case measure=>omega
                        case rel=>exact ⟨kk+1,_,rfl,rfl,by omega,by omega,by go_num,H3.out.1⟩
                  · have u1:decide ((kk:Int)≤(x:Int))=false:=decide_eq_false (by omega)
                    go_wp2_with fail
                    go_roundg (nL - (j+1))
                    case measure=>omega
                    case rel=>exact ⟨j+1,x1,_,rfl,rfl,by omega,by omega,by omega,rfl,by go_num,HSY.out.2,HZ.out.1⟩
              · as_aux_lemma =>
                have v1':(W1:Int) < (ce:Int):=by omega
                obtain ⟨hq1,htr⟩:=HWD.out (by omega)
                have HTR:Hid (∀ W',Only (fun _=>False) X W'→Calls Try.prog 15 #[.agg #[.slice aC k cC,.slice (some ⟨bo,oo,none⟩) (k+1) cO],.int .i64 (q:Int),.int .i64 (x1:Int)] W' fun e w'=>e=.returned (.int .i64 (x1:Int))∧Only (fun _=>False) W' w'):=fun W' ho=>by
                  have h:=trim_any C O k (k+1) aC _ cC cO q x1 W' (HPv.out W' ho) (by omega) (by omega)
                  rw [show x1 - q=1 by omega,htr,← hq1] at h
                  exact h
                have HQ1:Hid (x1=q+1):=hq1
                clear hq1 htr
                refine wp_region_held_drew (S:=(fun W'=>W'.cell? ⟨XB,0,none⟩=some (.int .i64 (q:Int))∧W'.cell? ⟨XB,1,none⟩=some (.int .i64 (x1:Int))∧W'.cell? ⟨XB,3,none⟩=some (.int .u8 (x2:Int))∧W'.cell? ⟨B5,1,none⟩=some (.slice (some ⟨bo,oo,none⟩) (k+1) cO)∧W'.cell? ⟨bo,oo+x1,none⟩=some (.int .u8 (x2:Int)))) (by kernel_rfl) (⟨(HXC.out _ (Only.refl _ _).drew).1,(HXC.out _ (Only.refl _ _).drew).2.1,(HXC.out _ (Only.refl _ _).drew).2.2.2.1,(HPC.out _ HX1.out.2.drew).1.2,HCX.out _ HX1.out.2.drew⟩) (fun hHeld=>?_)
                refine wpAnyH_take (i:=0) (oi:={ dst:=some 42,op:=_,type:=_,pos:=_,after:=_,guard:=_ }) (v:=.pointer (some ⟨XB,0,none⟩)) rfl (by kernel_rfl) (by kernel_rfl) (by kernel_rfl) (fun _ _ _ h=>h) (Or.inl ⟨by rfl,fun w hSw=>by obtain ⟨y0,y1,y2,y3,y4⟩:=hSw;first | (go_simp;done) | go_simp⟩) (by assumption) ?_
                (try simp only [Act.put,List.setIfInBounds_toArray,List.set_cons_zero,List.set_cons_succ])
                refine wpAnyH_take (i:=1) (oi:={ dst:=some 43,op:=_,type:=_,pos:=_,after:=_,guard:=_ }) (v:=.int .i64 (q:Int)) rfl (by kernel_rfl) (by kernel_rfl) (by kernel_rfl) (fun _ _ _ h=>h) (Or.inl ⟨by rfl,fun w hSw=>by obtain ⟨y0,y1,y2,y3,y4⟩:=hSw;first | (go_simp;done) | go_simp⟩) (by assumption) ?_
                (try simp only [Act.put,List.setIfInBounds_toArray,List.set_cons_zero,List.set_cons_succ])
                refine wpAnyH_take (i:=2) (oi:={ dst:=some 44,op:=_,type:=_,pos:=_,after:=_,guard:=_ }) (v:=.int .i64 (q:Int)) rfl (by kernel_rfl) (by kernel_rfl) (by kernel_rfl) (fun _ _ _ h=>h) (Or.inl ⟨by rfl,fun w hSw=>by obtain ⟨y0,y1,y2,y3,y4⟩:=hSw;first | (go_simp;done) | go_simp⟩) (by assumption) ?_
                (try simp only [Act.put,List.setIfInBounds_toArray,List.set_cons_zero,List.set_cons_succ])
                refine wpAnyH_take (i:=3) (oi:={ dst:=some 45,op:=_,type:=_,pos:=_,after:=_,guard:=_ }) (v:=.bool false) rfl (by kernel_rfl) (by kernel_rfl) (by kernel_rfl) (fun _ _ _ h=>h) (Or.inl ⟨by rfl,fun w hSw=>by obtain ⟨y0,y1,y2,y3,y4⟩:=hSw;first | (go_simp;done) | go_simp⟩) (by assumption) ?_
                (try simp only [Act.put,List.setIfInBounds_toArray,List.set_cons_zero,List.set_cons_succ])
                refine wpAnyH_take (i:=4) (oi:={ dst:=some 46,op:=_,type:=_,pos:=_,after:=_,guard:=_ }) (v:=.bool false) rfl (by kernel_rfl) (by kernel_rfl) (by kernel_rfl) (fun _ _ _ h=>h) (Or.inl ⟨by rfl,fun w hSw=>by obtain ⟨y0,y1,y2,y3,y4⟩:=hSw;first | (go_simp;done) | go_simp⟩) (by assumption) ?_
                (try simp only [Act.put,List.setIfInBounds_toArray,List.set_cons_zero,List.set_cons_succ])
                refine wpAnyH_take (i:=5) (oi:={ dst:=some 47,op:=_,type:=_,pos:=_,after:=_,guard:=_ }) (v:=.pointer (some ⟨XB,1,none⟩)) rfl (by kernel_rfl) (by kernel_rfl) (by kernel_rfl) (fun _ _ _ h=>h) (Or.inl ⟨by rfl,fun w hSw=>by obtain ⟨y0,y1,y2,y3,y4⟩:=hSw;first | (go_simp;done) | go_simp⟩) (by assumption) ?_
                (try simp only [Act.put,List.setIfInBounds_toArray,List.set_cons_zero,List.set_cons_succ])
                refine wpAnyH_take (i:=6) (oi:={ dst:=some 48,op:=_,type:=_,pos:=_,after:=_,guard:=_ }) (v:=.int .i64 (x1:Int)) rfl (by kernel_rfl) (by kernel_rfl) (by kernel_rfl) (fun _ _ _ h=>h) (Or.inl ⟨by rfl,fun w hSw=>by obtain ⟨y0,y1,y2,y3,y4⟩:=hSw;first | (go_simp;done) | go_simp⟩) (by assumption) ?_
                (try simp only [Act.put,List.setIfInBounds_toArray,List.set_cons_zero,List.set_cons_succ])
                refine wpAnyH_take (i:=7) (oi:={ dst:=some 49,op:=_,type:=_,pos:=_,after:=_,guard:=_ }) (v:=.int .i64 (q:Int)) rfl (by kernel_rfl) (by kernel_rfl) (by kernel_rfl) (fun _ _ _ h=>h) (Or.inl ⟨by rfl,fun w hSw=>by obtain ⟨y0,y1,y2,y3,y4⟩:=hSw;first | (go_simp;done) | go_simp⟩) (by assumption) ?_
                (try simp only [Act.put,List.setIfInBounds_toArray,List.set_cons_zero,List.set_cons_succ])
                refine wpAnyH_take (i:=8) (oi:={ dst:=some 50,op:=_,type:=_,pos:=_,after:=_,guard:=_ }) (v:=.bool false) rfl (by kernel_rfl) (by kernel_rfl) (by kernel_rfl) (fun _ _ _ h=>h) (Or.inl ⟨by rfl,fun w hSw=>by obtain ⟨y0,y1,y2,y3,y4⟩:=hSw;first | (go_simp;done) | go_simp⟩) (by assumption) ?_
                (try simp only [Act.put,List.setIfInBounds_toArray,List.set_cons_zero,List.set_cons_succ])
                refine wpAnyH_take (i:=9) (oi:={ dst:=some 51,op:=_,type:=_,pos:=_,after:=_,guard:=_ }) (v:=.bool false) rfl (by kernel_rfl) (by kernel_rfl) (by kernel_rfl) (fun _ _ _ h=>h) (Or.inl ⟨by rfl,fun w hSw=>by obtain ⟨y0,y1,y2,y3,y4⟩:=hSw;first | (go_simp;done) | go_simp⟩) (by assumption) ?_
                (try simp only [Act.put,List.setIfInBounds_toArray,List.set_cons_zero,List.set_cons_succ])
                refine wpAnyH_take (i:=10) (oi:={ dst:=some 52,op:=_,type:=_,pos:=_,after:=_,guard:=_ }) (v:=.bool false) rfl (by kernel_rfl) (by kernel_rfl) (by kernel_rfl) (fun _ _ _ h=>h) (Or.inl ⟨by rfl,fun w hSw=>by obtain ⟨y0,y1,y2,y3,y4⟩:=hSw;first | (go_simp;done) | go_simp⟩) (by assumption) ?_
                (try simp only [Act.put,List.setIfInBounds_toArray,List.set_cons_zero,List.set_cons_succ])
                refine wpAnyH_take (i:=11) (oi:={ dst:=some 53,op:=_,type:=_,pos:=_,after:=_,guard:=_ }) (v:=.pointer (some ⟨XB,1,none⟩)) rfl (by kernel_rfl) (by kernel_rfl) (by kernel_rfl) (fun _ _ _ h=>h) (Or.inl ⟨by rfl,fun w hSw=>by obtain ⟨y0,y1,y2,y3,y4⟩:=hSw;first | (go_simp;done) | go_simp⟩) (by assumption) ?_
                (try simp only [Act.put,List.setIfInBounds_toArray,List.set_cons_zero,List.set_cons_succ])
                refine wpAnyH_take (i:=12) (oi:={ dst:=some 54,op:=_,type:=_,pos:=_,after:=_,guard:=_ }) (v:=.int .i64 (x1:Int)) rfl (by kernel_rfl) (by kernel_rfl) (by kernel_rfl) (fun _ _ _ h=>h) (Or.inl ⟨by rfl,fun w hSw=>by obtain ⟨y0,y1,y2,y3,y4⟩:=hSw;first | (go_simp;done) | go_simp⟩) (by assumption) ?_
                (try simp only [Act.put,List.setIfInBounds_toArray,List.set_cons_zero,List.set_cons_succ])
                refine wpAnyH_take (i:=13) (oi:={ dst:=some 55,op:=_,type:=_,pos:=_,after:=_,guard:=_ }) (v:=.int .i64 (x:Int)) rfl (by kernel_rfl) (by kernel_rfl) (by kernel_rfl) (fun _ _ _ h=>h) (Or.inl ⟨by rfl,fun w hSw=>by obtain ⟨y0,y1,y2,y3,y4⟩:=hSw;first | (go_simp;done) | go_simp⟩) (by assumption) ?_
                (try simp only [Act.put,List.setIfInBounds_toArray,List.set_cons_zero,List.set_cons_succ])
                refine wpAnyH_take (i:=14) (oi:={ dst:=some 56,op:=_,type:=_,pos:=_,after:=_,guard:=_ }) (v:=.bool false) rfl (by kernel_rfl) (by kernel_rfl) (by kernel_rfl) (fun _ _ _ h=>h) (Or.inl ⟨by rfl,fun w hSw=>by obtain ⟨y0,y1,y2,y3,y4⟩:=hSw;first | (go_simp;done) | go_simp⟩) (by assumption) ?_
                (try simp only [Act.put,List.setIfInBounds_toArray,List.set_cons_zero,List.set_cons_succ])
                refine wpAnyH_take (i:=15) (oi:={ dst:=some 57,op:=_,type:=_,pos:=_,after:=_,guard:=_ }) (v:=.bool false) rfl (by kernel_rfl) (by kernel_rfl) (by kernel_rfl) (fun _ _ _ h=>h) (Or.inl ⟨by rfl,fun w hSw=>by obtain ⟨y0,y1,y2,y3,y4⟩:=hSw;first | (go_simp;done) | go_simp⟩) (by assumption) ?_
                (try simp only [Act.put,List.setIfInBounds_toArray,List.set_cons_zero,List.set_cons_succ])
                refine wpAnyH_take (i:=16) (oi:={ dst:=some 58,op:=_,type:=_,pos:=_,after:=_,guard:=_ }) (v:=.bool false) rfl (by kernel_rfl) (by kernel_rfl) (by kernel_rfl) (fun _ _ _ h=>h) (Or.inl ⟨by rfl,fun w hSw=>by obtain ⟨y0,y1,y2,y3,y4⟩:=hSw;first | (go_simp;done) | go_simp⟩) (by assumption) ?_
                (try simp only [Act.put,List.setIfInBounds_toArray,List.set_cons_zero,List.set_cons_succ])
                refine wpAnyH_take (i:=17) (oi:={ dst:=some 59,op:=_,type:=_,pos:=_,after:=_,guard:=_ }) (v:=.pointer (some ⟨XB,3,none⟩)) rfl (by kernel_rfl) (by kernel_rfl) (by kernel_rfl) (fun _ _ _ h=>h) (Or.inl ⟨by rfl,fun w hSw=>by obtain ⟨y0,y1,y2,y3,y4⟩:=hSw;first | (go_simp;done) | go_simp⟩) (by assumption) ?_
                (try simp only [Act.put,List.setIfInBounds_toArray,List.set_cons_zero,List.set_cons_succ])
                refine wpAnyH_take (i:=18) (oi:={ dst:=some 60,op:=_,type:=_,pos:=_,after:=_,guard:=_ }) (v:=.int .u8 (x2:Int)) rfl (by kernel_rfl) (by kernel_rfl) (by kernel_rfl) (fun _ _ _ h=>h) (Or.inl ⟨by rfl,fun w hSw=>by obtain ⟨y0,y1,y2,y3,y4⟩:=hSw;first | (go_simp;done) | go_simp⟩) (by assumption) ?_
                (try simp only [Act.put,List.setIfInBounds_toArray,List.set_cons_zero,List.set_cons_succ])
                refine wpAnyH_take (i:=19) (oi:={ dst:=some 61,op:=_,type:=_,pos:=_,after:=_,guard:=_ }) (v:=.bool true) rfl (by kernel_rfl) (by kernel_rfl) (by kernel_rfl) (fun _ _ _ h=>h) (Or.inl ⟨by rfl,fun w hSw=>by obtain ⟨y0,y1,y2,y3,y4⟩:=hSw;first | (go_simp;done) | go_simp⟩) (by assumption) ?_
                (try simp only [Act.put,List.setIfInBounds_toArray,List.set_cons_zero,List.set_cons_succ])
                refine wpAnyH_take (i:=20) (oi:={ dst:=some 62,op:=_,type:=_,pos:=_,after:=_,guard:=_ }) (v:=.bool true) rfl (by kernel_rfl) (by kernel_rfl) (by kernel_rfl) (fun _ _ _ h=>h) (Or.inl ⟨by rfl,fun w hSw=>by obtain ⟨y0,y1,y2,y3,y4⟩:=hSw;first | (go_simp;done) | go_simp⟩) (by assumption) ?_
                (try simp only [Act.put,List.setIfInBounds_toArray,List.set_cons_zero,List.set_cons_succ])
                refine wpAnyH_take (i:=21) (oi:={ dst:=some 63,op:=_,type:=_,pos:=_,after:=_,guard:=_ }) (v:=.pointer (some ⟨XB,3,none⟩)) rfl (by kernel_rfl) (by kernel_rfl) (by kernel_rfl) (fun _ _ _ h=>h) (Or.inl ⟨by rfl,fun w hSw=>by obtain ⟨y0,y1,y2,y3,y4⟩:=hSw;first | (go_simp;done) | go_simp⟩) (by assumption) ?_
                (try simp only [Act.put,List.setIfInBounds_toArray,List.set_cons_zero,List.set_cons_succ])
                refine wpAnyH_take (i:=22) (oi:={ dst:=some 64,op:=_,type:=_,pos:=_,after:=_,guard:=_ }) (v:=.int .u8 (x2:Int)) rfl (by kernel_rfl) (by kernel_rfl) (by kernel_rfl) (fun _ _ _ h=>h) (Or.inl ⟨by rfl,fun w hSw=>by obtain ⟨y0,y1,y2,y3,y4⟩:=hSw;first | (go_simp;done) | go_simp⟩) (by assumption) ?_
                (try simp only [Act.put,List.setIfInBounds_toArray,List.set_cons_zero,List.set_cons_succ])
                refine wpAnyH_take (i:=23) (oi:={ dst:=some 65,op:=_,type:=_,pos:=_,after:=_,guard:=_ }) (v:=.pointer (some ⟨B5,1,none⟩)) rfl (by kernel_rfl) (by kernel_rfl) (by kernel_rfl) (fun _ _ _ h=>h) (Or.inl ⟨by rfl,fun w hSw=>by obtain ⟨y0,y1,y2,y3,y4⟩:=hSw;first | (go_simp;done) | go_simp⟩) (by assumption) ?_
                (try simp only [Act.put,List.setIfInBounds_toArray,List.set_cons_zero,List.set_cons_succ])
                refine wpAnyH_take (i:=24) (oi:={ dst:=some 66,op:=_,type:=_,pos:=_,after:=_,guard:=_ }) (v:=.slice (some ⟨bo,oo,none⟩) (k+1) cO) rfl (by kernel_rfl) (by kernel_rfl) (by kernel_rfl) (fun _ _ _ h=>h) (Or.inl ⟨by rfl,fun w hSw=>by obtain ⟨y0,y1,y2,y3,y4⟩:=hSw;first | (go_simp;done) | go_simp⟩) (by assumption) ?_
                (try simp only [Act.put,List.setIfInBounds_toArray,List.set_cons_zero,List.set_cons_succ])
                refine wpAnyH_take (i:=25) (oi:={ dst:=some 67,op:=_,type:=_,pos:=_,after:=_,guard:=_ }) (v:=.pointer (some ⟨XB,1,none⟩)) rfl (by kernel_rfl) (by kernel_rfl) (by kernel_rfl) (fun _ _ _ h=>h) (Or.inl ⟨by rfl,fun w hSw=>by obtain ⟨y0,y1,y2,y3,y4⟩:=hSw;first | (go_simp;done) | go_simp⟩) (by assumption) ?_
                (try simp only [Act.put,List.setIfInBounds_toArray,List.set_cons_zero,List.set_cons_succ])
                refine wpAnyH_take (i:=26) (oi:={ dst:=some 68,op:=_,type:=_,pos:=_,after:=_,guard:=_ }) (v:=.int .i64 (x1:Int)) rfl (by kernel_rfl) (by kernel_rfl) (by kernel_rfl) (fun _ _ _ h=>h) (Or.inl ⟨by rfl,fun w hSw=>by obtain ⟨y0,y1,y2,y3,y4⟩:=hSw;first | (go_simp;done) | go_simp⟩) (by assumption) ?_
                (try simp only [Act.put,List.setIfInBounds_toArray,List.set_cons_zero,List.set_cons_succ])
                refine wpAnyH_take (i:=27) (oi:={ dst:=some 69,op:=_,type:=_,pos:=_,after:=_,guard:=_ }) (v:=.pointer (some ⟨bo,oo+x1,none⟩)) rfl (by kernel_rfl) (by kernel_rfl) (by kernel_rfl) (fun _ _ _ h=>h) (Or.inl ⟨by rfl,fun w hSw=>by obtain ⟨y0,y1,y2,y3,y4⟩:=hSw;first | (go_simp;done) | go_simp⟩) (by assumption) ?_
                (try simp only [Act.put,List.setIfInBounds_toArray,List.set_cons_zero,List.set_cons_succ])
                refine wpAnyH_take (i:=28) (oi:={ dst:=some 70,op:=_,type:=_,pos:=_,after:=_,guard:=_ }) (v:=.int .u8 (x2:Int)) rfl (by kernel_rfl) (by kernel_rfl) (by kernel_rfl) (fun _ _ _ h=>h) (Or.inl ⟨by rfl,fun w hSw=>by obtain ⟨y0,y1,y2,y3,y4⟩:=hSw;first | (go_simp;done) | go_simp⟩) (by assumption) ?_
                (try simp only [Act.put,List.setIfInBounds_toArray,List.set_cons_zero,List.set_cons_succ])
                refine wpAnyH_take (i:=29) (oi:={ dst:=some 71,op:=_,type:=_,pos:=_,after:=_,guard:=_ }) (v:=.bool false) rfl (by kernel_rfl) (by kernel_rfl) (by kernel_rfl) (fun _ _ _ h=>h) (Or.inl ⟨by rfl,fun w hSw=>by obtain ⟨y0,y1,y2,y3,y4⟩:=hSw;first | (go_simp;done) | go_simp⟩) (by assumption) ?_
                (try simp only [Act.put,List.setIfInBounds_toArray,List.set_cons_zero,List.set_cons_succ])
                refine wpAnyH_take (i:=30) (oi:={ dst:=some 72,op:=_,type:=_,pos:=_,after:=_,guard:=_ }) (v:=.bool false) rfl (by kernel_rfl) (by kernel_rfl) (by kernel_rfl) (fun _ _ _ h=>h) (Or.inl ⟨by rfl,fun w hSw=>by obtain ⟨y0,y1,y2,y3,y4⟩:=hSw;first | (go_simp;done) | go_simp⟩) (by assumption) ?_
                (try simp only [Act.put,List.setIfInBounds_toArray,List.set_cons_zero,List.set_cons_succ])
                refine wpAnyH_take (i:=31) (oi:={ dst:=some 73,op:=_,type:=_,pos:=_,after:=_,guard:=_ }) (v:=.bool false) rfl (by kernel_rfl) (by kernel_rfl) (by kernel_rfl) (fun _ _ _ h=>h) (Or.inl ⟨by rfl,fun w hSw=>by obtain ⟨y0,y1,y2,y3,y4⟩:=hSw;first | (go_simp;done) | go_simp⟩) (by assumption) ?_
                (try simp only [Act.put,List.setIfInBounds_toArray,List.set_cons_zero,List.set_cons_succ])
                refine wpAnyH_take (i:=32) (oi:={ dst:=some 74,op:=_,type:=_,pos:=_,after:=_,guard:=_ }) (v:=.bool false) rfl (by kernel_rfl) (by kernel_rfl) (by kernel_rfl) (fun _ _ _ h=>h) (Or.inl ⟨by rfl,fun w hSw=>by obtain ⟨y0,y1,y2,y3,y4⟩:=hSw;first | (go_simp;done) | go_simp⟩) (by assumption) ?_
                (try simp only [Act.put,List.setIfInBounds_toArray,List.set_cons_zero,List.set_cons_succ])
                refine wpAnyH_take (i:=33) (oi:={ dst:=some 75,op:=_,type:=_,pos:=_,after:=_,guard:=_ }) (v:=.pointer (some ⟨XB,3,none⟩)) rfl (by kernel_rfl) (by kernel_rfl) (by kernel_rfl) (fun _ _ _ h=>h) (Or.inl ⟨by rfl,fun w hSw=>by obtain ⟨y0,y1,y2,y3,y4⟩:=hSw;first | (go_simp;done) | go_simp⟩) (by assumption) ?_
                (try simp only [Act.put,List.setIfInBounds_toArray,List.set_cons_zero,List.set_cons_succ])
                refine wpAnyH_take (i:=34) (oi:={ dst:=some 76,op:=_,type:=_,pos:=_,after:=_,guard:=_ }) (v:=.int .u8 (x2:Int)) rfl (by kernel_rfl) (by kernel_rfl) (by kernel_rfl) (fun _ _ _ h=>h) (Or.inl ⟨by rfl,fun w hSw=>by obtain ⟨y0,y1,y2,y3,y4⟩:=hSw;first | (go_simp;done) | go_simp⟩) (by assumption) ?_
                (try simp only [Act.put,List.setIfInBounds_toArray,List.set_cons_zero,List.set_cons_succ])
                refine wpAnyH_take (i:=35) (oi:={ dst:=some 77,op:=_,type:=_,pos:=_,after:=_,guard:=_ }) (v:=.bool false) rfl (by kernel_rfl) (by kernel_rfl) (by kernel_rfl) (fun _ _ _ h=>h) (Or.inl ⟨by rfl,fun w hSw=>by obtain ⟨y0,y1,y2,y3,y4⟩:=hSw;first | (go_simp;done) | go_simp⟩) (by assumption) ?_
                (try simp only [Act.put,List.setIfInBounds_toArray,List.set_cons_zero,List.set_cons_succ])
                refine wpAnyH_take (i:=36) (oi:={ dst:=some 78,op:=_,type:=_,pos:=_,after:=_,guard:=_ }) (v:=.bool false) rfl (by kernel_rfl) (by kernel_rfl) (by kernel_rfl) (fun _ _ _ h=>h) (Or.inl ⟨by rfl,fun w hSw=>by obtain ⟨y0,y1,y2,y3,y4⟩:=hSw;first | (go_simp;done) | go_simp⟩) (by assumption) ?_
                (try simp only [Act.put,List.setIfInBounds_toArray,List.set_cons_zero,List.set_cons_succ])
                refine wpAnyH_done (by kernel_rfl) ?_ _
                clear hHeld
                have v2':(q:Int)+1=(x1:Int):=by have:=HQ1.out;omega
                generalize hUd:U1.drew=Ud0
                have HW0:Hid (Only (fun _=>False) V1 Ud0∧Only (fun _=>False) X Ud0∧Only (fun _=>False) U1 Ud0):=by rw [← hUd];exact ⟨HX1.out.1.drew,HX1.out.2.drew,(Only.refl _ _).drew⟩
                clear hUd a0' a1' a2' a3' aL' r0 r1 k0 k1 k2 k3 k4 k5 l5 l6 cO1
                obtain ⟨a0',a1',a2',a3',aL'⟩:=HXC.out Ud0 HW0.out.2.2
                obtain ⟨⟨r0,r1⟩,k0,k1,k2,k3,k4,k5⟩:=HPC.out Ud0 HW0.out.2.1
                obtain ⟨l5,l6⟩:=HLT.out Ud0 HW0.out.2.1
                go_wp2_with fail
                refine Calls.mono (HTR.out _ HW0.out.2.1) ?_
                rintro e Ud ⟨rfl,hoUd⟩
                have HWd:Hid (Only (fun _=>False) V1 Ud∧Only (fun _=>False) X Ud∧Only (fun _=>False) U1 Ud):=⟨HW0.out.1.trans hoUd,HW0.out.2.1.trans hoUd,HW0.out.2.2.trans hoUd⟩
                clear hoUd a0' a1' a2' a3' aL' r0 r1 k0 k1 k2 k3 k4 k5 l5 l6
                go_upto_region 18 with fail
                clear v2'
                go_wp2_with fail
                go_loopg [13] (x - q) (fun gh v13 wr=>∃ (kk:Nat) (Z:World),Z=wr∧gh=x+1 - kk∧q < kk∧kk≤x+1∧v13=.int .i64 (kk:Int)∧Only (fun _=>False) Ud Z)
                case atStart=>exact ⟨q+1,_,rfl,by omega,by omega,by omega,by go_num,(Only.refl _ _)⟩
                case round =>
                  obtain ⟨kk,Z,hZ,rfl,hkk1,hkk2,rfl,hoZ⟩:=hrel
                  subst hZ
                  have HZ:Hid (Only (fun _=>False) V1 Z∧Only (fun _=>False) X Z∧Only (fun _=>False) U1 Z∧Only (fun _=>False) Ud Z):=⟨HWd.out.1.trans hoZ,HWd.out.2.1.trans hoZ,HWd.out.2.2.trans hoZ,hoZ⟩
                  clear hoZ
                  obtain ⟨b0',b1',b2',b3',bL'⟩:=HXC.out Z HZ.out.2.2.1
                  by_cases hkx:kk≤x
                  · have u1:(kk:Int)≤(x:Int):=by omega
                    have u2:(kk:Int) < (k:Int)+1:=by omega
                    have u3:kk < k+1:=by omega
                    obtain ⟨e2,hO2,hD2⟩:=getD_some (O:=O) (k:=kk) (by rw [HOL.out.1];omega)
                    have he2:e2 < 4:=HO4.out e2 (List.mem_of_getElem? hO2)
                    obtain ⟨v1,hv1⟩:∃ y,y=Sp.wde C T1 q kk e2:=⟨_,rfl⟩
                    have hv1s:v1≤66001:=by rw [hv1];exact Sp.wde_small (HPv.out X (Only.refl _ _)).ok ht0 ht1 (by omega)
                    have HC1:Hid (∀ W',Only (fun _=>False) X W'→Calls Try.prog 16 #[.agg #[.slice aC k cC,.slice (some ⟨bo,oo,none⟩) (k+1) cO],.int .i64 (q:Int),.int .i64 (kk:Int),.int .u8 (e2:Int),.int .i64 (T1:Int)] W' fun e w'=>e=.returned (.int .i64 (v1:Int))∧Only (fun _=>False) W' w'):=fun W' ho=>by rw [hv1,wde_cel];exact cells_any C O k (k+1) aC _ cC cO q kk T1 e2 W' (HPv.out W' ho) (by omega) (by omega) ht0 (by omega) (by omega)
                    have HOK:Hid (e2≠0→v1≤W1→Sp.ok C O T1 W1 q kk=true):=fun h1 h2=>(ok_tf hD2).2.1 h1 (by rw [← hv1];exact h2)
                    have HS7:Hid (∀ W',Only (fun _=>False) X W'→((W'.cell? ⟨B5,0,none⟩=some (.slice aC k cC)∧W'.cell? ⟨B5,1,none⟩=some (.slice (some ⟨bo,oo,none⟩) (k+1) cO))∧(W'.cell? ⟨B6,0,none⟩=some (.int .i64 (W1:Int))∧W'.cell? ⟨B6,1,none⟩=some (.int .i64 (T1:Int))))∧W'.cell? ⟨bo,oo+kk,none⟩=some (.int .u8 (e2:Int))):=fun W' ho=>⟨⟨(HPC.out W' ho).1,(HPC.out W' ho).2.1,(HPC.out W' ho).2.2.1⟩,HCO.out W' ho kk e2 hO2⟩
                    clear hO2 hD2 hv1
                    by_cases he0:e2=0
                    · have t4:((e2:Int) != 0)=false:=by simp;omega
                      clear he0
                      go_wp2_with fail
                      refine wp_region_held_drew (S:=(fun W'=>((W'.cell? ⟨B5,0,none⟩=some (.slice aC k cC)∧W'.cell? ⟨B5,1,none⟩=some (.slice (some ⟨bo,oo,none⟩) (k+1) cO))∧(W'.cell? ⟨B6,0,none⟩=some (.int .i64 (W1:Int))∧W'.cell? ⟨B6,1,none⟩=some (.int .i64 (T1:Int))))∧W'.cell? ⟨bo,oo+kk,none⟩=some (.int .u8 (e2:Int)))) (by kernel_rfl) (HS7.out _ HZ.out.2.1.drew) (fun hHeld=>?_)
                      refine wpAnyH_take (i:=0) (oi:={ dst:=some 108,op:=_,type:=_,pos:=_,after:=_,guard:=_ }) (v:=.pointer (some ⟨B5,1,none⟩)) rfl (by kernel_rfl) (by kernel_rfl) (by kernel_rfl) (fun _ _ _ h=>h) (Or.inl ⟨by rfl,fun w hSw=>by obtain ⟨⟨⟨y0,y1⟩,y2,y3⟩,y4⟩:=hSw;first | (go_simp;done) | go_simp⟩) (by assumption) ?_
                      (try simp only [Act.put,List.setIfInBounds_toArray,List.set_cons_zero,List.set_cons_succ])
                      refine wpAnyH_take (i:=1) (oi:={ dst:=some 109,op:=_,type:=_,pos:=_,after:=_,guard:=_ }) (v:=.slice (some ⟨bo,oo,none⟩) (k+1) cO) rfl (by kernel_rfl) (by kernel_rfl) (by kernel_rfl) (fun _ _ _ h=>h) (Or.inl ⟨by rfl,fun w hSw=>by obtain ⟨⟨⟨y0,y1⟩,y2,y3⟩,y4⟩:=hSw;first | (go_simp;done) | go_simp⟩) (by assumption) ?_
                      (try simp only [Act.put,List.setIfInBounds_toArray,List.set_cons_zero,List.set_cons_succ])
                      refine wpAnyH_take (i:=2) (oi:={ dst:=some 110,op:=_,type:=_,pos:=_,after:=_,guard:=_ }) (v:=.int .i64 (kk:Int)) rfl (by kernel_rfl) (by kernel_rfl) (by kernel_rfl) (fun _ _ _ h=>h) (Or.inl ⟨by rfl,fun w hSw=>by obtain ⟨⟨⟨y0,y1⟩,y2,y3⟩,y4⟩:=hSw;first | (go_simp;done) | go_simp⟩) (by assumption) ?_
                      (try simp only [Act.put,List.setIfInBounds_toArray,List.set_cons_zero,List.set_cons_succ])
                      refine wpAnyH_take (i:=3) (oi:={ dst:=some 111,op:=_,type:=_,pos:=_,after:=_,guard:=_ }) (v:=.pointer (some ⟨bo,oo+kk,none⟩)) rfl (by kernel_rfl) (by kernel_rfl) (by kernel_rfl) (fun _ _ _ h=>h) (Or.inl ⟨by rfl,fun w hSw=>by obtain ⟨⟨⟨y0,y1⟩,y2,y3⟩,y4⟩:=hSw;first | (go_simp;done) | go_simp⟩) (by assumption) ?_
                      (try simp only [Act.put,List.setIfInBounds_toArray,List.set_cons_zero,List.set_cons_succ])
                      refine wpAnyH_take (i:=4) (oi:={ dst:=some 112,op:=_,type:=_,pos:=_,after:=_,guard:=_ }) (v:=.int .u8 (e2:Int)) rfl (by kernel_rfl) (by kernel_rfl) (by kernel_rfl) (fun _ _ _ h=>h) (Or.inl ⟨by rfl,fun w hSw=>by obtain ⟨⟨⟨y0,y1⟩,y2,y3⟩,y4⟩:=hSw;first | (go_simp;done) | go_simp⟩) (by assumption) ?_
                      (try simp only [Act.put,List.setIfInBounds_toArray,List.set_cons_zero,List.set_cons_succ])
                      refine wpAnyH_take (i:=5) (oi:={ dst:=some 113,op:=_,type:=_,pos:=_,after:=_,guard:=_ }) (v:=.bool false) rfl (by kernel_rfl) (by kernel_rfl) (by kernel_rfl) (fun _ _ _ h=>h) (Or.inl ⟨by rfl,fun w hSw=>by obtain ⟨⟨⟨y0,y1⟩,y2,y3⟩,y4⟩:=hSw;first | (go_simp;done) | go_simp⟩) (by assumption) ?_
                      (try simp only [Act.put,List.setIfInBounds_toArray,List.set_cons_zero,List.set_cons_succ])
                      refine wpAnyH_take (i:=6) (oi:={ dst:=some 114,op:=_,type:=_,pos:=_,after:=_,guard:=_ }) (v:=.bool false) rfl (by kernel_rfl) (by kernel_rfl) (by kernel_rfl) (fun _ _ _ h=>h) (Or.inl ⟨by rfl,fun w hSw=>by obtain ⟨⟨⟨y0,y1⟩,y2,y3⟩,y4⟩:=hSw;first | (go_simp;done) | go_simp⟩) (by assumption) ?_
                      (try simp only [Act.put,List.setIfInBounds_toArray,List.set_cons_zero,List.set_cons_succ])
                      refine wpAnyH_take (i:=7) (oi:={ dst:=some 115,op:=_,type:=_,pos:=_,after:=_,guard:=_ }) (v:=undef) rfl (by kernel_rfl) (by kernel_rfl) (by kernel_rfl) (fun _ _ _ h=>h) (Or.inr ⟨by rfl,rfl⟩) (by assumption) ?_
                      (try simp only [Act.put,List.setIfInBounds_toArray,List.set_cons_zero,List.set_cons_succ])
                      refine wpAnyH_take (i:=8) (oi:={ dst:=some 116,op:=_,type:=_,pos:=_,after:=_,guard:=_ }) (v:=undef) rfl (by kernel_rfl) (by kernel_rfl) (by kernel_rfl) (fun _ _ _ h=>h) (Or.inr ⟨by rfl,rfl⟩) (by assumption) ?_
                      (try simp only [Act.put,List.setIfInBounds_toArray,List.set_cons_zero,List.set_cons_succ])
                      refine wpAnyH_take (i:=9) (oi:={ dst:=some 117,op:=_,type:=_,pos:=_,after:=_,guard:=_ }) (v:=undef) rfl (by kernel_rfl) (by kernel_rfl) (by kernel_rfl) (fun _ _ _ h=>h) (Or.inr ⟨by rfl,rfl⟩) (by assumption) ?_
                      (try simp only [Act.put,List.setIfInBounds_toArray,List.set_cons_zero,List.set_cons_succ])
                      refine wpAnyH_take (i:=10) (oi:={ dst:=some 118,op:=_,type:=_,pos:=_,after:=_,guard:=_ }) (v:=undef) rfl (by kernel_rfl) (by kernel_rfl) (by kernel_rfl) (fun _ _ _ h=>h) (Or.inr ⟨by rfl,rfl⟩) (by assumption) ?_
                      (try simp only [Act.put,List.setIfInBounds_toArray,List.set_cons_zero,List.set_cons_succ])
                      refine wpAnyH_take (i:=11) (oi:={ dst:=some 119,op:=_,type:=_,pos:=_,after:=_,guard:=_ }) (v:=undef) rfl (by kernel_rfl) (by kernel_rfl) (by kernel_rfl) (fun _ _ _ h=>h) (Or.inr ⟨by rfl,rfl⟩) (by assumption) ?_
                      (try simp only [Act.put,List.setIfInBounds_toArray,List.set_cons_zero,List.set_cons_succ])
                      refine wpAnyH_take (i:=12) (oi:={ dst:=some 120,op:=_,type:=_,pos:=_,after:=_,guard:=_ }) (v:=undef) rfl (by kernel_rfl) (by kernel_rfl) (by kernel_rfl) (fun _ _ _ h=>h) (Or.inr ⟨by rfl,rfl⟩) (by assumption) ?_
                      (try simp only [Act.put,List.setIfInBounds_toArray,List.set_cons_zero,List.set_cons_succ])
                      refine wpAnyH_take (i:=13) (oi:={ dst:=some 121,op:=_,type:=_,pos:=_,after:=_,guard:=_ }) (v:=undef) rfl (by kernel_rfl) (by kernel_rfl) (by kernel_rfl) (fun _ _ _ h=>h) (Or.inr ⟨by rfl,rfl⟩) (by assumption) ?_
                      (try simp only [Act.put,List.setIfInBounds_toArray,List.set_cons_zero,List.set_cons_succ])
                      refine wpAnyH_take (i:=14) (oi:={ dst:=some 122,op:=_,type:=_,pos:=_,after:=_,guard:=_ }) (v:=undef) rfl (by kernel_rfl) (by kernel_rfl) (by kernel_rfl) (fun _ _ _ h=>h) (Or.inr ⟨by rfl,rfl⟩) (by assumption) ?_
                      (try simp only [Act.put,List.setIfInBounds_toArray,List.set_cons_zero,List.set_cons_succ])
                      refine wpAnyH_take (i:=15) (oi:={ dst:=some 123,op:=_,type:=_,pos:=_,after:=_,guard:=_ }) (v:=undef) rfl (by kernel_rfl) (by kernel_rfl) (by kernel_rfl) (fun _ _ _ h=>h) (Or.inr ⟨by rfl,rfl⟩) (by assumption) ?_
                      (try simp only [Act.put,List.setIfInBounds_toArray,List.set_cons_zero,List.set_cons_succ])
                      refine wpAnyH_take (i:=16) (oi:={ dst:=some 124,op:=_,type:=_,pos:=_,after:=_,guard:=_ }) (v:=undef) rfl (by kernel_rfl) (by kernel_rfl) (by kernel_rfl) (fun _ _ _ h=>h) (Or.inr ⟨by rfl,rfl⟩) (by assumption) ?_
                      (try simp only [Act.put,List.setIfInBounds_toArray,List.set_cons_zero,List.set_cons_succ])
                      refine wpAnyH_take (i:=17) (oi:={ dst:=some 125,op:=_,type:=_,pos:=_,after:=_,guard:=_ }) (v:=undef) rfl (by kernel_rfl) (by kernel_rfl) (by kernel_rfl) (fun _ _ _ h=>h) (Or.inr ⟨by rfl,rfl⟩) (by assumption) ?_
                      (try simp only [Act.put,List.setIfInBounds_toArray,List.set_cons_zero,List.set_cons_succ])
                      refine wpAnyH_take (i:=18) (oi:={ dst:=some 126,op:=_,type:=_,pos:=_,after:=_,guard:=_ }) (v:=undef) rfl (by kernel_rfl) (by kernel_rfl) (by kernel_rfl) (fun _ _ _ h=>h) (Or.inr ⟨by rfl,rfl⟩) (by assumption) ?_
                      (try simp only [Act.put,List.setIfInBounds_toArray,List.set_cons_zero,List.set_cons_succ])
                      refine wpAnyH_take (i:=19) (oi:={ dst:=some 127,op:=_,type:=_,pos:=_,after:=_,guard:=_ }) (v:=undef) rfl (by kernel_rfl) (by kernel_rfl) (by kernel_rfl) (fun _ _ _ h=>h) (Or.inr ⟨by rfl,rfl⟩) (by assumption) ?_
                      (try simp only [Act.put,List.setIfInBounds_toArray,List.set_cons_zero,List.set_cons_succ])
                      refine wpAnyH_take (i:=20) (oi:={ dst:=some 128,op:=_,type:=_,pos:=_,after:=_,guard:=_ }) (v:=undef) rfl (by kernel_rfl) (by kernel_rfl) (by kernel_rfl) (fun _ _ _ h=>h) (Or.inr ⟨by rfl,rfl⟩) (by assumption) ?_
                      (try simp only [Act.put,List.setIfInBounds_toArray,List.set_cons_zero,List.set_cons_succ])
                      refine wpAnyH_take (i:=21) (oi:={ dst:=some 129,op:=_,type:=_,pos:=_,after:=_,guard:=_ }) (v:=.bool false) rfl (by kernel_rfl) (by kernel_rfl) (by kernel_rfl) (fun _ _ _ h=>h) (Or.inl ⟨by rfl,fun w hSw=>by obtain ⟨⟨⟨y0,y1⟩,y2,y3⟩,y4⟩:=hSw;first | (go_simp;done) | go_simp⟩) (by assumption) ?_
                      (try simp only [Act.put,List.setIfInBounds_toArray,List.set_cons_zero,List.set_cons_succ])
                      refine wpAnyH_take (i:=22) (oi:={ dst:=some 14,op:=_,type:=_,pos:=_,after:=_,guard:=_ }) (v:=.bool false) rfl (by kernel_rfl) (by kernel_rfl) (by kernel_rfl) (fun _ _ _ h=>h) (Or.inl ⟨by rfl,fun w hSw=>by obtain ⟨⟨⟨y0,y1⟩,y2,y3⟩,y4⟩:=hSw;first | (go_simp;done) | go_simp⟩) (by assumption) ?_
                      (try simp only [Act.put,List.setIfInBounds_toArray,List.set_cons_zero,List.set_cons_succ])
                      refine wpAnyH_done (by kernel_rfl) ?_ _
                      clear hHeld
                      go_wp2_with fail
                      go_roundg (x+1 - (kk+1))
                      case measure=>omega
                      case rel=>exact ⟨kk+1,_,rfl,rfl,by omega,by omega,by go_num,HZ.out.2.2.2.drew⟩
                    · have t4:((e2:Int) != 0)=true:=by simp;omega
                      by_cases hw1:v1≤W1
                      · have t5:(v1:Int)≤(W1:Int):=by omega
                        have hsy:=HSY.out.1.1 kk hkk1 hkx (HOK.out he0 hw1)
                        have t6:decide ((x1:Int) < (kk:Int))=false:=decide_eq_false (by have:=hsy.2;omega)
                        have t7:kk≤x1:=hsy.2
                        clear he0 hsy
                        go_wp2_with fail
                        refine wp_region_held_drew (S:=(fun W'=>((W'.cell? ⟨B5,0,none⟩=some (.slice aC k cC)∧W'.cell? ⟨B5,1,none⟩=some (.slice (some ⟨bo,oo,none⟩) (k+1) cO))∧(W'.cell? ⟨B6,0,none⟩=some (.int .i64 (W1:Int))∧W'.cell? ⟨B6,1,none⟩=some (.int .i64 (T1:Int))))∧W'.cell? ⟨bo,oo+kk,none⟩=some (.int .u8 (e2:Int)))) (by kernel_rfl) (HS7.out _ HZ.out.2.1.drew) (fun hHeld=>?_)
                        refine wpAnyH_take (i:=0) (oi:={ dst:=some 108,op:=_,type:=_,pos:=_,after:=_,guard:=_ }) (v:=.pointer (some ⟨B5,1,none⟩)) rfl (by kernel_rfl) (by kernel_rfl) (by kernel_rfl) (fun _ _ _ h=>h) (Or.inl ⟨by rfl,fun w hSw=>by obtain ⟨⟨⟨y0,y1⟩,y2,y3⟩,y4⟩:=hSw;first | (go_simp;done) | go_simp⟩) (by assumption) ?_
                        (try simp only [Act.put,List.setIfInBounds_toArray,List.set_cons_zero,List.set_cons_succ])
                        refine wpAnyH_take (i:=1) (oi:={ dst:=some 109,op:=_,type:=_,pos:=_,after:=_,guard:=_ }) (v:=.slice (some ⟨bo,oo,none⟩) (k+1) cO) rfl (by kernel_rfl) (by kernel_rfl) (by kernel_rfl) (fun _ _ _ h=>h) (Or.inl ⟨by rfl,fun w hSw=>by obtain ⟨⟨⟨y0,y1⟩,y2,y3⟩,y4⟩:=hSw;first | (go_simp;done) | go_simp⟩) (by assumption) ?_
                        (try simp only [Act.put,List.setIfInBounds_toArray,List.set_cons_zero,List.set_cons_succ])
                        refine wpAnyH_take (i:=2) (oi:={ dst:=some 110,op:=_,type:=_,pos:=_,after:=_,guard:=_ }) (v:=.int .i64 (kk:Int)) rfl (by kernel_rfl) (by kernel_rfl) (by kernel_rfl) (fun _ _ _ h=>h) (Or.inl ⟨by rfl,fun w hSw=>by obtain ⟨⟨⟨y0,y1⟩,y2,y3⟩,y4⟩:=hSw;first | (go_simp;done) | go_simp⟩) (by assumption) ?_
                        (try simp only [Act.put,List.setIfInBounds_toArray,List.set_cons_zero,List.set_cons_succ])
                        refine wpAnyH_take (i:=3) (oi:={ dst:=some 111,op:=_,type:=_,pos:=_,after:=_,guard:=_ }) (v:=.pointer (some ⟨bo,oo+kk,none⟩)) rfl (by kernel_rfl) (by kernel_rfl) (by kernel_rfl) (fun _ _ _ h=>h) (Or.inl ⟨by rfl,fun w hSw=>by obtain ⟨⟨⟨y0,y1⟩,y2,y3⟩,y4⟩:=hSw;first | (go_simp;done) | go_simp⟩) (by assumption) ?_
                        (try simp only [Act.put,List.setIfInBounds_toArray,List.set_cons_zero,List.set_cons_succ])
                        refine wpAnyH_take (i:=4) (oi:={ dst:=some 112,op:=_,type:=_,pos:=_,after:=_,guard:=_ }) (v:=.int .u8 (e2:Int)) rfl (by kernel_rfl) (by kernel_rfl) (by kernel_rfl) (fun _ _ _ h=>h) (Or.inl ⟨by rfl,fun w hSw=>by obtain ⟨⟨⟨y0,y1⟩,y2,y3⟩,y4⟩:=hSw;first | (go_simp;done) | go_simp⟩) (by assumption) ?_
                        (try simp only [Act.put,List.setIfInBounds_toArray,List.set_cons_zero,List.set_cons_succ])
                        refine wpAnyH_take (i:=5) (oi:={ dst:=some 113,op:=_,type:=_,pos:=_,after:=_,guard:=_ }) (v:=.bool true) rfl (by kernel_rfl) (by kernel_rfl) (by kernel_rfl) (fun _ _ _ h=>h) (Or.inl ⟨by rfl,fun w hSw=>by obtain ⟨⟨⟨y0,y1⟩,y2,y3⟩,y4⟩:=hSw;first | (go_simp;done) | go_simp⟩) (by assumption) ?_
                        (try simp only [Act.put,List.setIfInBounds_toArray,List.set_cons_zero,List.set_cons_succ])
                        refine wpAnyH_take (i:=6) (oi:={ dst:=some 114,op:=_,type:=_,pos:=_,after:=_,guard:=_ }) (v:=.bool true) rfl (by kernel_rfl) (by kernel_rfl) (by kernel_rfl) (fun _ _ _ h=>h) (Or.inl ⟨by rfl,fun w hSw=>by obtain ⟨⟨⟨y0,y1⟩,y2,y3⟩,y4⟩:=hSw;first | (go_simp;done) | go_simp⟩) (by assumption) ?_
                        (try simp only [Act.put,List.setIfInBounds_toArray,List.set_cons_zero,List.set_cons_succ])
                        refine wpAnyH_take (i:=7) (oi:={ dst:=some 115,op:=_,type:=_,pos:=_,after:=_,guard:=_ }) (v:=.agg #[.slice aC k cC,.slice (some ⟨bo,oo,none⟩) (k+1) cO]) rfl (by kernel_rfl) (by kernel_rfl) (by kernel_rfl) (fun _ _ _ h=>h) (Or.inl ⟨by rfl,fun w hSw=>by obtain ⟨⟨⟨y0,y1⟩,y2,y3⟩,y4⟩:=hSw;first | (go_simp;done) | go_simp⟩) (by assumption) ?_
                        (try simp only [Act.put,List.setIfInBounds_toArray,List.set_cons_zero,List.set_cons_succ])
                        refine wpAnyH_take (i:=8) (oi:={ dst:=some 116,op:=_,type:=_,pos:=_,after:=_,guard:=_ }) (v:=.int .i64 (q:Int)) rfl (by kernel_rfl) (by kernel_rfl) (by kernel_rfl) (fun _ _ _ h=>h) (Or.inl ⟨by rfl,fun w hSw=>by obtain ⟨⟨⟨y0,y1⟩,y2,y3⟩,y4⟩:=hSw;first | (go_simp;done) | go_simp⟩) (by assumption) ?_
                        (try simp only [Act.put,List.setIfInBounds_toArray,List.set_cons_zero,List.set_cons_succ])
                        refine wpAnyH_take (i:=9) (oi:={ dst:=some 117,op:=_,type:=_,pos:=_,after:=_,guard:=_ }) (v:=.int .i64 (kk:Int)) rfl (by kernel_rfl) (by kernel_rfl) (by kernel_rfl) (fun _ _ _ h=>h) (Or.inl ⟨by rfl,fun w hSw=>by obtain ⟨⟨⟨y0,y1⟩,y2,y3⟩,y4⟩:=hSw;first | (go_simp;done) | go_simp⟩) (by assumption) ?_
                        (try simp only [Act.put,List.setIfInBounds_toArray,List.set_cons_zero,List.set_cons_succ])
                        refine wpAnyH_take (i:=10) (oi:={ dst:=some 118,op:=_,type:=_,pos:=_,after:=_,guard:=_ }) (v:=.pointer (some ⟨B5,1,none⟩)) rfl (by kernel_rfl) (by kernel_rfl) (by kernel_rfl) (fun _ _ _ h=>h) (Or.inl ⟨by rfl,fun w hSw=>by obtain ⟨⟨⟨y0,y1⟩,y2,y3⟩,y4⟩:=hSw;first | (go_simp;done) | go_simp⟩) (by assumption) ?_
                        (try simp only [Act.put,List.setIfInBounds_toArray,List.set_cons_zero,List.set_cons_succ])
                        refine wpAnyH_take (i:=11) (oi:={ dst:=some 119,op:=_,type:=_,pos:=_,after:=_,guard:=_ }) (v:=.slice (some ⟨bo,oo,none⟩) (k+1) cO) rfl (by kernel_rfl) (by kernel_rfl) (by kernel_rfl) (fun _ _ _ h=>h) (Or.inl ⟨by rfl,fun w hSw=>by obtain ⟨⟨⟨y0,y1⟩,y2,y3⟩,y4⟩:=hSw;first | (go_simp;done) | go_simp⟩) (by assumption) ?_
                        (try simp only [Act.put,List.setIfInBounds_toArray,List.set_cons_zero,List.set_cons_succ])
                        refine wpAnyH_take (i:=12) (oi:={ dst:=some 120,op:=_,type:=_,pos:=_,after:=_,guard:=_ }) (v:=.int .i64 (kk:Int)) rfl (by kernel_rfl) (by kernel_rfl) (by kernel_rfl) (fun _ _ _ h=>h) (Or.inl ⟨by rfl,fun w hSw=>by obtain ⟨⟨⟨y0,y1⟩,y2,y3⟩,y4⟩:=hSw;first | (go_simp;done) | go_simp⟩) (by assumption) ?_
                        (try simp only [Act.put,List.setIfInBounds_toArray,List.set_cons_zero,List.set_cons_succ])
                        refine wpAnyH_take (i:=13) (oi:={ dst:=some 121,op:=_,type:=_,pos:=_,after:=_,guard:=_ }) (v:=.pointer (some ⟨bo,oo+kk,none⟩)) rfl (by kernel_rfl) (by kernel_rfl) (by kernel_rfl) (fun _ _ _ h=>h) (Or.inl ⟨by rfl,fun w hSw=>by obtain ⟨⟨⟨y0,y1⟩,y2,y3⟩,y4⟩:=hSw;first | (go_simp;done) | go_simp⟩) (by assumption) ?_
                        (try simp only [Act.put,List.setIfInBounds_toArray,List.set_cons_zero,List.set_cons_succ])
                        refine wpAnyH_take (i:=14) (oi:={ dst:=some 122,op:=_,type:=_,pos:=_,after:=_,guard:=_ }) (v:=.int .u8 (e2:Int)) rfl (by kernel_rfl) (by kernel_rfl) (by kernel_rfl) (fun _ _ _ h=>h) (Or.inl ⟨by rfl,fun w hSw=>by obtain ⟨⟨⟨y0,y1⟩,y2,y3⟩,y4⟩:=hSw;first | (go_simp;done) | go_simp⟩) (by assumption) ?_
                        (try simp only [Act.put,List.setIfInBounds_toArray,List.set_cons_zero,List.set_cons_succ])
                        refine wpAnyH_take (i:=15) (oi:={ dst:=some 123,op:=_,type:=_,pos:=_,after:=_,guard:=_ }) (v:=.pointer (some ⟨B6,1,none⟩)) rfl (by kernel_rfl) (by kernel_rfl) (by kernel_rfl) (fun _ _ _ h=>h) (Or.inl ⟨by rfl,fun w hSw=>by obtain ⟨⟨⟨y0,y1⟩,y2,y3⟩,y4⟩:=hSw;first | (go_simp;done) | go_simp⟩) (by assumption) ?_
                        (try simp only [Act.put,List.setIfInBounds_toArray,List.set_cons_zero,List.set_cons_succ])
                        refine wpAnyH_take (i:=16) (oi:={ dst:=some 124,op:=_,type:=_,pos:=_,after:=_,guard:=_ }) (v:=.int .i64 (T1:Int)) rfl (by kernel_rfl) (by kernel_rfl) (by kernel_rfl) (fun _ _ _ h=>h) (Or.inl ⟨by rfl,fun w hSw=>by obtain ⟨⟨⟨y0,y1⟩,y2,y3⟩,y4⟩:=hSw;first | (go_simp;done) | go_simp⟩) (by assumption) ?_
                        (try simp only [Act.put,List.setIfInBounds_toArray,List.set_cons_zero,List.set_cons_succ])
                        refine wpAnyH_take (i:=18) (oi:={ dst:=some 126,op:=_,type:=_,pos:=_,after:=_,guard:=_ }) (v:=.pointer (some ⟨B6,0,none⟩)) rfl (by kernel_rfl) (by kernel_rfl) (by kernel_rfl) (fun _ _ _ h=>h) (Or.inl ⟨by rfl,fun w hSw=>by obtain ⟨⟨⟨y0,y1⟩,y2,y3⟩,y4⟩:=hSw;first | (go_simp;done) | go_simp⟩) (by assumption) ?_
                        (try simp only [Act.put,List.setIfInBounds_toArray,List.set_cons_zero,List.set_cons_succ])
                        refine wpAnyH_take (i:=19) (oi:={ dst:=some 127,op:=_,type:=_,pos:=_,after:=_,guard:=_ }) (v:=.int .i64 (W1:Int)) rfl (by kernel_rfl) (by kernel_rfl) (by kernel_rfl) (fun _ _ _ h=>h) (Or.inl ⟨by rfl,fun w hSw=>by obtain ⟨⟨⟨y0,y1⟩,y2,y3⟩,y4⟩:=hSw;first | (go_simp;done) | go_simp⟩) (by assumption) ?_
                        (try simp only [Act.put,List.setIfInBounds_toArray,List.set_cons_zero,List.set_cons_succ])
                        refine wpAnyH_ready (rs:=[17]) (by kernel_rfl) (by simp) ?_
                        refine AllReadyH.cons rfl (fun K hK=>?_) AllReadyH.nil
                        rw [if_pos (by rfl)]
                        go_simp
                        refine Calls.mono (HC1.out _ HZ.out.2.1.drew) ?_
                        rintro r w3 ⟨rfl,ho3⟩
                        have H3:Hid (Only (fun _=>False) Ud w3∧Only (fun _=>False) X w3∧Only (fun _=>False) U1 w3):=⟨HZ.out.2.2.2.drew.trans ho3,HZ.out.2.1.drew.trans ho3,HZ.out.2.2.1.drew.trans ho3⟩
                        clear ho3
                        refine hK.out _ _ (HS7.out _ H3.out.2.1) (fun hHeld=>?_)
                        clear hK
                        (try simp only [Act.put,List.setIfInBounds_toArray,List.set_cons_zero,List.set_cons_succ])
                        refine wpAnyH_take (i:=20) (oi:={ dst:=some 128,op:=_,type:=_,pos:=_,after:=_,guard:=_ }) (v:=.bool true) rfl (by kernel_rfl) (by kernel_rfl) (by kernel_rfl) (fun _ _ _ h=>h) (Or.inl ⟨by rfl,fun w hSw=>by obtain ⟨⟨⟨y0,y1⟩,y2,y3⟩,y4⟩:=hSw;first | (go_simp;done) | go_simp⟩) (by assumption) ?_
                        (try simp only [Act.put,List.setIfInBounds_toArray,List.set_cons_zero,List.set_cons_succ])
                        refine wpAnyH_take (i:=21) (oi:={ dst:=some 129,op:=_,type:=_,pos:=_,after:=_,guard:=_ }) (v:=.bool true) rfl (by kernel_rfl) (by kernel_rfl) (by kernel_rfl) (fun _ _ _ h=>h) (Or.inl ⟨by rfl,fun w hSw=>by obtain ⟨⟨⟨y0,y1⟩,y2,y3⟩,y4⟩:=hSw;first | (go_simp;done) | go_simp⟩) (by assumption) ?_
                        (try simp only [Act.put,List.setIfInBounds_toArray,List.set_cons_zero,List.set_cons_succ])
                        refine wpAnyH_take (i:=22) (oi:={ dst:=some 14,op:=_,type:=_,pos:=_,after:=_,guard:=_ }) (v:=.bool true) rfl (by kernel_rfl) (by kernel_rfl) (by kernel_rfl) (fun _ _ _ h=>h) (Or.inl ⟨by rfl,fun w hSw=>by obtain ⟨⟨⟨y0,y1⟩,y2,y3⟩,y4⟩:=hSw;first | (go_simp;done) | go_simp⟩) (by assumption) ?_
                        (try simp only [Act.put,List.setIfInBounds_toArray,List.set_cons_zero,List.set_cons_succ])
                        refine wpAnyH_done (by kernel_rfl) ?_ _
                        clear hHeld
                        obtain ⟨f0',f1',f2',f3',fL'⟩:=HXC.out w3 H3.out.2.2
                        go_wp2_with fail
                        go_roundg (x+1 - (kk+1))
                        case measure=>omega
                        case rel=>exact ⟨kk+1,_,rfl,rfl,by omega,by omega,by go_num,H3.out.1⟩
                      · have t5:decide ((v1:Int)≤(W1:Int))=false:=decide_eq_false (by omega)
                        clear he0
                        go_wp2_with fail
                        refine wp_region_held_drew (S:=(fun W'=>((W'.cell? ⟨B5,0,none⟩=some (.slice aC k cC)∧W'.cell? ⟨B5,1,none⟩=some (.slice (some ⟨bo,oo,none⟩) (k+1) cO))∧(W'.cell? ⟨B6,0,none⟩=some (.int .i64 (W1:Int))∧W'.cell? ⟨B6,1,none⟩=some (.int .i64 (T1:Int))))∧W'.cell? ⟨bo,oo+kk,none⟩=some (.int .u8 (e2:Int)))) (by kernel_rfl) (HS7.out _ HZ.out.2.1.drew) (fun hHeld=>?_)
                        refine wpAnyH_take (i:=0) (oi:={ dst:=some 108,op:=_,type:=_,pos:=_,after:=_,guard:=_ }) (v:=.pointer (some ⟨B5,1,none⟩)) rfl (by kernel_rfl) (by kernel_rfl) (by kernel_rfl) (fun _ _ _ h=>h) (Or.inl ⟨by rfl,fun w hSw=>by obtain ⟨⟨⟨y0,y1⟩,y2,y3⟩,y4⟩:=hSw;first | (go_simp;done) | go_simp⟩) (by assumption) ?_
                        (try simp only [Act.put,List.setIfInBounds_toArray,List.set_cons_zero,List.set_cons_succ])
                        refine wpAnyH_take (i:=1) (oi:={ dst:=some 109,op:=_,type:=_,pos:=_,after:=_,guard:=_ }) (v:=.slice (some ⟨bo,oo,none⟩) (k+1) cO) rfl (by kernel_rfl) (by kernel_rfl) (by kernel_rfl) (fun _ _ _ h=>h) (Or.inl ⟨by rfl,fun w hSw=>by obtain ⟨⟨⟨y0,y1⟩,y2,y3⟩,y4⟩:=hSw;first | (go_simp;done) | go_simp⟩) (by assumption) ?_
                        (try simp only [Act.put,List.setIfInBounds_toArray,List.set_cons_zero,List.set_cons_succ])
                        refine wpAnyH_take (i:=2) (oi:={ dst:=some 110,op:=_,type:=_,pos:=_,after:=_,guard:=_ }) (v:=.int .i64 (kk:Int)) rfl (by kernel_rfl) (by kernel_rfl) (by kernel_rfl) (fun _ _ _ h=>h) (Or.inl ⟨by rfl,fun w hSw=>by obtain ⟨⟨⟨y0,y1⟩,y2,y3⟩,y4⟩:=hSw;first | (go_simp;done) | go_simp⟩) (by assumption) ?_
                        (try simp only [Act.put,List.setIfInBounds_toArray,List.set_cons_zero,List.set_cons_succ])
                        refine wpAnyH_take (i:=3) (oi:={ dst:=some 111,op:=_,type:=_,pos:=_,after:=_,guard:=_ }) (v:=.pointer (some ⟨bo,oo+kk,none⟩)) rfl (by kernel_rfl) (by kernel_rfl) (by kernel_rfl) (fun _ _ _ h=>h) (Or.inl ⟨by rfl,fun w hSw=>by obtain ⟨⟨⟨y0,y1⟩,y2,y3⟩,y4⟩:=hSw;first | (go_simp;done) | go_simp⟩) (by assumption) ?_
                        (try simp only [Act.put,List.setIfInBounds_toArray,List.set_cons_zero,List.set_cons_succ])
                        refine wpAnyH_take (i:=4) (oi:={ dst:=some 112,op:=_,type:=_,pos:=_,after:=_,guard:=_ }) (v:=.int .u8 (e2:Int)) rfl (by kernel_rfl) (by kernel_rfl) (by kernel_rfl) (fun _ _ _ h=>h) (Or.inl ⟨by rfl,fun w hSw=>by obtain ⟨⟨⟨y0,y1⟩,y2,y3⟩,y4⟩:=hSw;first | (go_simp;done) | go_simp⟩) (by assumption) ?_
                        (try simp only [Act.put,List.setIfInBounds_toArray,List.set_cons_zero,List.set_cons_succ])
                        refine wpAnyH_take (i:=5) (oi:={ dst:=some 113,op:=_,type:=_,pos:=_,after:=_,guard:=_ }) (v:=.bool true) rfl (by kernel_rfl) (by kernel_rfl) (by kernel_rfl) (fun _ _ _ h=>h) (Or.inl ⟨by rfl,fun w hSw=>by obtain ⟨⟨⟨y0,y1⟩,y2,y3⟩,y4⟩:=hSw;first | (go_simp;done) | go_simp⟩) (by assumption) ?_
                        (try simp only [Act.put,List.setIfInBounds_toArray,List.set_cons_zero,List.set_cons_succ])
                        refine wpAnyH_take (i:=6) (oi:={ dst:=some 114,op:=_,type:=_,pos:=_,after:=_,guard:=_ }) (v:=.bool true) rfl (by kernel_rfl) (by kernel_rfl) (by kernel_rfl) (fun _ _ _ h=>h) (Or.inl ⟨by rfl,fun w hSw=>by obtain ⟨⟨⟨y0,y1⟩,y2,y3⟩,y4⟩:=hSw;first | (go_simp;done) | go_simp⟩) (by assumption) ?_
                        (try simp only [Act.put,List.setIfInBounds_toArray,List.set_cons_zero,List.set_cons_succ])
                        refine wpAnyH_take (i:=7) (oi:={ dst:=some 115,op:=_,type:=_,pos:=_,after:=_,guard:=_ }) (v:=.agg #[.slice aC k cC,.slice (some ⟨bo,oo,none⟩) (k+1) cO]) rfl (by kernel_rfl) (by kernel_rfl) (by kernel_rfl) (fun _ _ _ h=>h) (Or.inl ⟨by rfl,fun w hSw=>by obtain ⟨⟨⟨y0,y1⟩,y2,y3⟩,y4⟩:=hSw;first | (go_simp;done) | go_simp⟩) (by assumption) ?_
                        (try simp only [Act.put,List.setIfInBounds_toArray,List.set_cons_zero,List.set_cons_succ])
                        refine wpAnyH_take (i:=8) (oi:={ dst:=some 116,op:=_,type:=_,pos:=_,after:=_,guard:=_ }) (v:=.int .i64 (q:Int)) rfl (by kernel_rfl) (by kernel_rfl) (by kernel_rfl) (fun _ _ _ h=>h) (Or.inl ⟨by rfl,fun w hSw=>by obtain ⟨⟨⟨y0,y1⟩,y2,y3⟩,y4⟩:=hSw;first | (go_simp;done) | go_simp⟩) (by assumption) ?_
                        (try simp only [Act.put,List.setIfInBounds_toArray,List.set_cons_zero,List.set_cons_succ])
                        refine wpAnyH_take (i:=9) (oi:={ dst:=some 117,op:=_,type:=_,pos:=_,after:=_,guard:=_ }) (v:=.int .i64 (kk:Int)) rfl (by kernel_rfl) (by kernel_rfl) (by kernel_rfl) (fun _ _ _ h=>h) (Or.inl ⟨by rfl,fun w hSw=>by obtain ⟨⟨⟨y0,y1⟩,y2,y3⟩,y4⟩:=hSw;first | (go_simp;done) | go_simp⟩) (by assumption) ?_
                        (try simp only [Act.put,List.setIfInBounds_toArray,List.set_cons_zero,List.set_cons_succ])
                        refine wpAnyH_take (i:=10) (oi:={ dst:=some 118,op:=_,type:=_,pos:=_,after:=_,guard:=_ }) (v:=.pointer (some ⟨B5,1,none⟩)) rfl (by kernel_rfl) (by kernel_rfl) (by kernel_rfl) (fun _ _ _ h=>h) (Or.inl ⟨by rfl,fun w hSw=>by obtain ⟨⟨⟨y0,y1⟩,y2,y3⟩,y4⟩:=hSw;first | (go_simp;done) | go_simp⟩) (by assumption) ?_
                        (try simp only [Act.put,List.setIfInBounds_toArray,List.set_cons_zero,List.set_cons_succ])
                        refine wpAnyH_take (i:=11) (oi:={ dst:=some 119,op:=_,type:=_,pos:=_,after:=_,guard:=_ }) (v:=.slice (some ⟨bo,oo,none⟩) (k+1) cO) rfl (by kernel_rfl) (by kernel_rfl) (by kernel_rfl) (fun _ _ _ h=>h) (Or.inl ⟨by rfl,fun w hSw=>by obtain ⟨⟨⟨y0,y1⟩,y2,y3⟩,y4⟩:=hSw;first | (go_simp;done) | go_simp⟩) (by assumption) ?_
                        (try simp only [Act.put,List.setIfInBounds_toArray,List.set_cons_zero,List.set_cons_succ])
                        refine wpAnyH_take (i:=12) (oi:={ dst:=some 120,op:=_,type:=_,pos:=_,after:=_,guard:=_ }) (v:=.int .i64 (kk:Int)) rfl (by kernel_rfl) (by kernel_rfl) (by kernel_rfl) (fun _ _ _ h=>h) (Or.inl ⟨by rfl,fun w hSw=>by obtain ⟨⟨⟨y0,y1⟩,y2,y3⟩,y4⟩:=hSw;first | (go_simp;done) | go_simp⟩) (by assumption) ?_
                        (try simp only [Act.put,List.setIfInBounds_toArray,List.set_cons_zero,List.set_cons_succ])
                        refine wpAnyH_take (i:=13) (oi:={ dst:=some 121,op:=_,type:=_,pos:=_,after:=_,guard:=_ }) (v:=.pointer (some ⟨bo,oo+kk,none⟩)) rfl (by kernel_rfl) (by kernel_rfl) (by kernel_rfl) (fun _ _ _ h=>h) (Or.inl ⟨by rfl,fun w hSw=>by obtain ⟨⟨⟨y0,y1⟩,y2,y3⟩,y4⟩:=hSw;first | (go_simp;done) | go_simp⟩) (by assumption) ?_
                        (try simp only [Act.put,List.setIfInBounds_toArray,List.set_cons_zero,List.set_cons_succ])
                        refine wpAnyH_take (i:=14) (oi:={ dst:=some 122,op:=_,type:=_,pos:=_,after:=_,guard:=_ }) (v:=.int .u8 (e2:Int)) rfl (by kernel_rfl) (by kernel_rfl) (by kernel_rfl) (fun _ _ _ h=>h) (Or.inl ⟨by rfl,fun w hSw=>by obtain ⟨⟨⟨y0,y1⟩,y2,y3⟩,y4⟩:=hSw;first | (go_simp;done) | go_simp⟩) (by assumption) ?_
                        (try simp only [Act.put,List.setIfInBounds_toArray,List.set_cons_zero,List.set_cons_succ])
                        refine wpAnyH_take (i:=15) (oi:={ dst:=some 123,op:=_,type:=_,pos:=_,after:=_,guard:=_ }) (v:=.pointer (some ⟨B6,1,none⟩)) rfl (by kernel_rfl) (by kernel_rfl) (by kernel_rfl) (fun _ _ _ h=>h) (Or.inl ⟨by rfl,fun w hSw=>by obtain ⟨⟨⟨y0,y1⟩,y2,y3⟩,y4⟩:=hSw;first | (go_simp;done) | go_simp⟩) (by assumption) ?_
                        (try simp only [Act.put,List.setIfInBounds_toArray,List.set_cons_zero,List.set_cons_succ])
                        refine wpAnyH_take (i:=16) (oi:={ dst:=some 124,op:=_,type:=_,pos:=_,after:=_,guard:=_ }) (v:=.int .i64 (T1:Int)) rfl (by kernel_rfl) (by kernel_rfl) (by kernel_rfl) (fun _ _ _ h=>h) (Or.inl ⟨by rfl,fun w hSw=>by obtain ⟨⟨⟨y0,y1⟩,y2,y3⟩,y4⟩:=hSw;first | (go_simp;done) | go_simp⟩) (by assumption) ?_
                        (try simp only [Act.put,List.setIfInBounds_toArray,List.set_cons_zero,List.set_cons_succ])
                        refine wpAnyH_take (i:=18) (oi:={ dst:=some 126,op:=_,type:=_,pos:=_,after:=_,guard:=_ }) (v:=.pointer (some ⟨B6,0,none⟩)) rfl (by kernel_rfl) (by kernel_rfl) (by kernel_rfl) (fun _ _ _ h=>h) (Or.inl ⟨by rfl,fun w hSw=>by obtain ⟨⟨⟨y0,y1⟩,y2,y3⟩,y4⟩:=hSw;first | (go_simp;done) | go_simp⟩) (by assumption) ?_
                        (try simp only [Act.put,List.setIfInBounds_toArray,List.set_cons_zero,List.set_cons_succ])
                        refine wpAnyH_take (i:=19) (oi:={ dst:=some 127,op:=_,type:=_,pos:=_,after:=_,guard:=_ }) (v:=.int .i64 (W1:Int)) rfl (by kernel_rfl) (by kernel_rfl) (by kernel_rfl) (fun _ _ _ h=>h) (Or.inl ⟨by rfl,fun w hSw=>by obtain ⟨⟨⟨y0,y1⟩,y2,y3⟩,y4⟩:=hSw;first | (go_simp;done) | go_simp⟩) (by assumption) ?_
                        (try simp only [Act.put,List.setIfInBounds_toArray,List.set_cons_zero,List.set_cons_succ])
                        refine wpAnyH_ready (rs:=[17]) (by kernel_rfl) (by simp) ?_
                        refine AllReadyH.cons rfl (fun K hK=>?_) AllReadyH.nil
                        rw [if_pos (by rfl)]
                        go_simp
                        refine Calls.mono (HC1.out _ HZ.out.2.1.drew) ?_
                        rintro r w3 ⟨rfl,ho3⟩
                        have H3:Hid (Only (fun _=>False) Ud w3∧Only (fun _=>False) X w3∧Only (fun _=>False) U1 w3):=⟨HZ.out.2.2.2.drew.trans ho3,HZ.out.2.1.drew.trans ho3,HZ.out.2.2.1.drew.trans ho3⟩
                        clear ho3
                        refine hK.out _ _ (HS7.out _ H3.out.2.1) (fun hHeld=>?_)
                        clear hK
                        (try simp only [Act.put,List.setIfInBounds_toArray,List.set_cons_zero,List.set_cons_succ])
                        refine wpAnyH_take (i:=20) (oi:={ dst:=some 128,op:=_,type:=_,pos:=_,after:=_,guard:=_ }) (v:=.bool false) rfl (by kernel_rfl) (by kernel_rfl) (by kernel_rfl) (fun _ _ _ h=>h) (Or.inl ⟨by rfl,fun w hSw=>by obtain ⟨⟨⟨y0,y1⟩,y2,y3⟩,y4⟩:=hSw;first | (go_simp;done) | go_simp⟩) (by assumption) ?_
                        (try simp only [Act.put,List.setIfInBounds_toArray,List.set_cons_zero,List.set_cons_succ])
                        refine wpAnyH_take (i:=21) (oi:={ dst:=some 129,op:=_,type:=_,pos:=_,after:=_,guard:=_ }) (v:=.bool false) rfl (by kernel_rfl) (by kernel_rfl) (by kernel_rfl) (fun _ _ _ h=>h) (Or.inl ⟨by rfl,fun w hSw=>by obtain ⟨⟨⟨y0,y1⟩,y2,y3⟩,y4⟩:=hSw;first | (go_simp;done) | go_simp⟩) (by assumption) ?_
                        (try simp only [Act.put,List.setIfInBounds_toArray,List.set_cons_zero,List.set_cons_succ])
                        refine wpAnyH_take (i:=22) (oi:={ dst:=some 14,op:=_,type:=_,pos:=_,after:=_,guard:=_ }) (v:=.bool false) rfl (by kernel_rfl) (by kernel_rfl) (by kernel_rfl) (fun _ _ _ h=>h) (Or.inl ⟨by rfl,fun w hSw=>by obtain ⟨⟨⟨y0,y1⟩,y2,y3⟩,y4⟩:=hSw;first | (go_simp;done) | go_simp⟩) (by assumption) ?_
                        (try simp only [Act.put,List.setIfInBounds_toArray,List.set_cons_zero,List.set_cons_succ])
                        refine wpAnyH_done (by kernel_rfl) ?_ _
                        clear hHeld
                        go_wp2_with fail
                        go_roundg (x+1 - (kk+1))
                        case measure=>omega
                        case rel=>exact ⟨kk+1,_,rfl,rfl,by omega,by omega,by go_num,H3.out.1⟩
                  · have u1:decide ((kk:Int)≤(x:Int))=false:=decide_eq_false (by omega)
                    go_wp2_with fail
                    go_roundg (nL - (j+1))
                    case measure=>omega
                    case rel=>exact ⟨j+1,x1,_,rfl,rfl,by omega,by omega,by omega,rfl,by go_num,HSY.out.2,HZ.out.1⟩
          · have t2:decide ((j:Int) < (nL:Int))=false:=decide_eq_false (by omega)
            have hend:=Sp.lines_end HU.out.1 (by rw [← HLL.out.2];omega)
            have hqx2:q=x:=by omega
            have t3:((q:Int) != (x:Int))=false:=by simp;omega
            clear hend hqx2
            go_wp2_with fail
            go_roundg (np - (i+1))
            case measure=>omega
            case rel=>exact ⟨i+1,x,_,rfl,rfl,by omega,rfl,by go_num,HXS.out.symm,HV1.out.2.2.trans HU.out.2.1⟩
      · have t1:decide ((i:Int) < (np:Int))=false:=decide_eq_false (by omega)
        go_wp2_with fail
        go_ret
        exact ⟨rfl,HWX.out.1.trans HG.out.2.2⟩
set_option maxRecDepth 100000 in
set_option maxHeartbeats 4000000 in
theorem walk0 (L:List Bt) (a0:Option Addr) (c0:Nat) (K:Wy) (w:World) (hc:L.length≤c0) (hm:c0≤maxLen) (h5:¬ L.length≤300) :
    Calls Try.prog 4 #[.slice a0 L.length c0,K.val] w fun e w'=>e=.returned (.bool true)∧Only (fun _=>False) w w':=by
  obtain ⟨wi,tb,mo,hy,pr,lo⟩:=K
  obtain ⟨n0,hn0⟩:∃ n,n=L.length:=⟨_,rfl⟩
  unfold Wy.val
  simp only
  rw [← hn0] at h5 hc ⊢
  clear hn0
  unfold maxLen at hm
  have s0:(300:Int) < (n0:Int):=by omega
  go_enter Try.func4,Try.ntmps4
  go_wp2_with fail
  refine Calls.mono (awake14_any _) ?_
  rintro e w2 ⟨rfl,ho2⟩
  have HW2:Hid (Only (fun _=>False) w w2):=((Only.refl _ _).alloc _).trans ho2
  clear ho2
  go_wp2_with fail
  go_ret
  exact ⟨rfl,HW2.out⟩
theorem walk (L:List Bt) (a0:Option Addr) (c0:Nat) (K:Wy) (w:World) (hV:Vw w a0 (btC L)) (hB:∀ b∈L,b.cells < 256∧b.kind < 256∧b.len < 256∧b.opp < 256) (hc:L.length≤c0) (hm:c0≤maxLen) (hK:K.Ok):Calls Try.prog 4 #[.slice a0 L.length c0,K.val] w fun e w'=>e=.returned (.bool true)∧Only (fun _=>False) w w':=by
  by_cases h5:L.length≤300
  · exact walk1 L a0 c0 K w hV hB h5 hK
  · exact walk0 L a0 c0 K w hc hm h5
end Go.Proofs.Ytjahocnkpomlpaa.firstLines

