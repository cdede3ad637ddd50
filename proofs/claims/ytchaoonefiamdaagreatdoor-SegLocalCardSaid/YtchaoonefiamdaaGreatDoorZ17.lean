/- Rd -/
import Derived.Test.YtchaoonefiamdaaGreatDoorZ13
import Derived.Test.YtchaoonefiamdaaGreatDoorZ16
namespace Go.Proofs.YtchaoonefiamdaaGreatDoor
open Go.RowKit Go.Maps
set_option linter.unusedVariables false
set_option linter.unusedSimpArgs false
open Rl (Ex)
def flS:List Nat→List Value
  | []=>[]
  | S :: L=>(sC S).toList++flS L
theorem flS_snoc:∀ (L:List Nat) (S:Nat),flS (L++[S])=flS L++(sC S).toList
  | [],S=>by simp [flS]
  | x :: L,S=>by rw [List.cons_append,flS,flS_snoc L S,flS,List.append_assoc]
theorem flS_at:∀ (L:List Nat) (i k S:Nat),L[i]?=some S→k < 4→(flS L)[i*4+k]?=some (.int .u64 (wd S k:Int))
  | x :: L,0,k,S,h,hk=>by
    injection h with h
    subst h
    rw [flS,Nat.zero_mul,Nat.zero_add,List.getElem?_append_left (by show k < 4;exact hk),Array.getElem?_toList]
    exact sC_at x k hk
  | x :: L,i+1,k,S,h,hk=>by
    rw [flS,List.getElem?_append_right (by show 4≤_;omega)]
    show (flS L)[(i+1)*4+k - 4]?=_
    rw [show (i+1)*4+k - 4=i*4+k by omega]
    exact flS_at L i k S (by simpa using h) hk
theorem Lw.row {w:World} {base:Nat} {v:Value} {Ls:List Nat} (h:w.ownsRow base 95 4 v Ls.length (flS Ls)):Lw w (fun b=>base≤b) v Ls:=by
  obtain ⟨hl,⟨rfl,h0⟩ | ⟨g,cap,cur,rfl,h1,h2,h3,h4,h5,h6⟩⟩:=h
  · refine ⟨none,0,by rw [h0],by omega,fun i S hS=>?_⟩
    have:=(List.getElem?_eq_some_iff.1 hS).1
    omega
  · refine ⟨some ⟨g,0,none⟩,cap,rfl,h3,fun i S hS=>⟨g,rfl,h1,(Array.getElem?_eq_some_iff.1 h2).1,fun j hj=>?_⟩⟩
    have hi:=(List.getElem?_eq_some_iff.1 hS).1
    have:=flS_at Ls i j S hS hj
    rw [← h6,List.getElem?_take,if_pos (by omega),Array.getElem?_toList] at this
    rw [cell_blk h2]
    exact this
theorem info73b:(Tryz.prog.info? 95).map (fun i=>(i.zero,i.size,i.bytes))=some (some (.agg #[.int .u64 0,.int .u64 0,.int .u64 0,.int .u64 0]),4,32):=by kernel_rfl
def readP (w:World) (g cl:Nat) (fs em:Nat) (Ls:List Nat) (R:Option (Au.Nd × Au.Pl)) (e:Ending) (w':World):Prop :=
  match R with
  | none=>e=.returned (.bool false)∧Only (fun h=>g≤h) w w'
  | some (x,p1)=>e=.returned (.bool true)∧(∃ vL,Plm w' g cl p1 (fs ||| x.first) vL (if x.none=true then em ||| 2 ^ Ls.length else em)∧w'.ownsRow (g+1) 95 4 vL (Ls.length+1) (flS (Ls++[x.last])))∧Only (fun h=>g≤h) w w'
theorem sC_news (w:World) (S:Nat):∀ j u,(sC S).toList[j]?=some u→(w.alloc (.cells (sC S) 95)).cell? ((⟨w.heap.size,0,none⟩:Addr).add j)=some u:=by
  intro j u hj
  rw [Addr.add_mid,Nat.zero_add,cell_of_row _ _ _ _ _ _ (heap_alloc_new _ _)]
  simpa using hj
theorem sC_cells (S:Nat):∀ u∈(sC S).toList,u.oneCell'=true:=fun u hu=>(Array.all_eq_true_iff_forall_mem.1 (sC_one S)) u (by simpa using hu)
set_option maxRecDepth 100000 in
set_option maxHeartbeats 8000000 in
theorem read_any (F:Nat→Prop) (g cl:Nat) (p:Au.Pl) (fs:Nat) (vL:Value) (em:Nat) (Ls:List Nat) (ex:Ex) (v:Value) (w:World) (hP:Plm w g cl p fs vL em) (hL:w.ownsRow (g+1) 95 4 vL Ls.length (flS Ls)) (hl:Ls.length < 24) (hem:em < 2 ^ 24) (hp:Au.OkP p) (hp2:p.sets.length≤200) (hcl:cl≤24) (he:Te w F ex v) (hF:∀ b,F b→b < g) (hD:Au.dp ex≤1000000) :
    Calls Tryz.prog 35 #[.pointer (some ⟨g,0,none⟩),v] w (readP w g cl fs em Ls (Au.node ex p)):=by
  have hlt:=hP.lt
  obtain ⟨op,set,a,n,c,rfl⟩:∃ op set a n c,v=.agg #[.int .u8 op,.int .u32 set,.slice a n c]:=by
    obtain ⟨o,s,kids⟩:=ex
    obtain ⟨a,cap,rfl,_⟩:=he.kids
    exact ⟨o,s,a,_,cap,rfl⟩
  have hO:Only (fun _=>False) w (w.alloc (.cells #[.int .u8 op,.int .u32 set,.slice a n c] 88)):=(Only.refl _ _).alloc _
  have HO0:Hid (Only (fun _=>False) w (w.alloc (.cells #[.int .u8 op,.int .u32 set,.slice a n c] 88))):=hO
  have HC:Hid (Calls Tryz.prog 54 #[.pointer (some ⟨g,0,none⟩),.agg #[.int .u8 op,.int .u32 set,.slice a n c]] (w.alloc (.cells #[.int .u8 op,.int .u32 set,.slice a n c] 88)) (partP (w.alloc (.cells #[.int .u8 op,.int .u32 set,.slice a n c] 88)) g cl fs vL em (Au.node ex p))):=part_any F g cl p fs vL em ex _ _ (Plb.only hP hO (fun h=>h)) hp hp2 hcl (Te.keep (Kp.only hO (fun _ _ h=>h)) (fun _ h=>h) ex _ he) (fun b hb=>⟨by have:=hF b hb;omega,by have:=hF b hb;simp;omega⟩) hD
  have HL:Hid (w.ownsRow (g+1) 95 4 vL Ls.length (flS Ls)):=hL
  have HM:Hid (em < 2 ^ 24):=hem
  obtain ⟨lc,rfl⟩:∃ lc:Option Addr × Nat,vL=.slice lc.1 Ls.length lc.2:=by
    obtain ⟨a,c,h,_⟩:=Lw.row hL
    exact ⟨(a,c),h⟩
  obtain ⟨la,lc⟩:=lc
  simp only at HC HL
  clear hP hp hp2 he hF hD hO hL hem
  cases hn:Au.node ex p with
  | none =>
    have HN:Hid (Au.node ex p=none):=hn
    clear hn
    go_enter Tryz.func35,Tryz.ntmps35
    go_wp2_with (go_at_call 54;have hc:=HC.out;rw [HN.out] at hc;refine hc.mono ?_;clear hc;rintro e w1 ⟨rfl,ho1⟩;unfold zPt)
    go_ret
    exact ⟨rfl,((HO0.out.mono (fun _ h=>h.elim)).trans (ho1.mono (fun _ h=>by omega))).alloc _⟩
  | some r =>
    obtain ⟨⟨xe,xf,xl⟩,p1⟩:=r
    have HN:Hid (Au.node ex p=some (⟨xe,xf,xl⟩,p1)):=hn
    clear hn
    obtain ⟨i9,h9,h90,h91,h92⟩:=info_parts info73b
    cases xe
    · go_enter Tryz.func35,Tryz.ntmps35
      go_wp2_with (go_at_call 54;have hc:=HC.out;rw [HN.out] at hc;refine hc.mono ?_;clear hc;rintro e w1 ⟨rfl,hp1,ho1⟩;have HP1:Hid (Plm w1 g cl p1 fs (.slice la Ls.length lc) em):=hp1;have HO1:Hid (Only (fun h=>g≤h) w w1):=(HO0.out.mono (fun _ h=>h.elim)).trans (ho1.mono (fun _ h=>by omega));have HL1:Hid (w1.ownsRow (g+1) 95 4 (.slice la Ls.length lc) Ls.length (flS Ls)):=own_only (own_only HL.out HO0.out (fun _ _ h=>h)) ho1 (fun b hb=>by omega);clear hp1 ho1;unfold ptV ptC)
      have HPW:Hid (Plm (w1.alloc (.cells (ptC ⟨false,xf,xl⟩) 113)) g cl p1 fs (.slice la Ls.length lc) em):=HP1.out.only (P:=fun _=>False) ((Only.refl _ _).alloc _) (fun h=>h)
      have HTW:Hid (Ptb (w1.alloc (.cells (ptC ⟨false,xf,xl⟩) 113)) w1.heap.size ⟨false,xf,xl⟩):=heap_alloc_new _ _
      have HLW:Hid ((w1.alloc (.cells (ptC ⟨false,xf,xl⟩) 113)).ownsRow (g+1) 95 4 (.slice la Ls.length lc) Ls.length (flS Ls)):=HL1.out.alloc _
      have HOW:Hid (Only (fun h=>g≤h) w (w1.alloc (.cells (ptC ⟨false,xf,xl⟩) 113))):=HO1.out.alloc _
      have hg1:g < w1.heap.size:=HP1.out.lt
      go_region_with (go_at_call 55;refine (add_any g 898 fs xf _ 100 _ (HPW.out.only (Only.refl (fun _=>False) _).drew (fun h=>h)) (pC_first _ _ _ _ _ _ _)).mono ?_;rintro e w2 ⟨rfl,hp2,ho2⟩;rw [pC_putFirst] at hp2;have HP2:Hid (Plb w2 g cl p1.sets.length (byP cl p1) p1.next (fs ||| xf) (.slice la Ls.length lc) em):=hp2;have HT2:Hid (Ptb w2 w1.heap.size ⟨false,xf,xl⟩):=(HTW.out.only (Only.refl (fun _=>False) _).drew (fun h=>h)).only ho2 (by omega);have HL2:Hid (w2.ownsRow (g+1) 95 4 (.slice la Ls.length lc) Ls.length (flS Ls)):=own_only (own_only HLW.out (Only.refl (fun _=>False) _).drew (fun _ _ h=>h)) ho2 (fun b hb=>by omega);have HO2:Hid (Only (fun h=>g≤h) w w2):=(HOW.out.drew).trans (ho2.mono (fun _ h=>by omega));clear hp2 ho2)
      all_goals
        go_wp2_with fail
        have HT2d:Hid (Ptb w2.drew w1.heap.size ⟨false,xf,xl⟩):=HT2.out.only (Only.refl (fun _=>False) _).drew (fun h=>h)
        have HP2d:Hid (Plb w2.drew g cl p1.sets.length (byP cl p1) p1.next (fs ||| xf) (.slice la Ls.length lc) em):=HP2.out.only (Only.refl (fun _=>False) _).drew (fun h=>h)
        have HL2d:Hid (w2.drew.ownsRow (g+1) 95 4 (.slice la Ls.length lc) Ls.length (flS Ls)):=own_only HL2.out (Only.refl (fun _=>False) _).drew (fun _ _ h=>h)
        have hg2:g < w2.heap.size:=HP2.out.lt
        have d902:=HP2d.out.c902
        have d902c:(w2.alloc (.cells #[.int .u64 (wd xl 0:Int),.int .u64 (wd xl 1:Int),.int .u64 (wd xl 2:Int),.int .u64 (wd xl 3:Int)] 95)).drew.cell? ⟨g,902,none⟩=some (.slice la Ls.length lc):=(HP2.out.only (P:=fun _=>False) ((Only.refl _ _).alloc _).drew (fun h=>h)).c902
        have d902e:(w2.alloc (.cells #[.int .u64 (wd xl 0:Int),.int .u64 (wd xl 1:Int),.int .u64 (wd xl 2:Int),.int .u64 (wd xl 3:Int)] 95)).cell? ⟨g,902,none⟩=some (.slice la Ls.length lc):=(HP2.out.only (P:=fun _=>False) ((Only.refl _ _).alloc _) (fun h=>h)).c902
        have d902b:(w2.drew.alloc (.cells #[.int .u64 (wd xl 0:Int),.int .u64 (wd xl 1:Int),.int .u64 (wd xl 2:Int),.int .u64 (wd xl 3:Int)] 95)).cell? ⟨g,902,none⟩=some (.slice la Ls.length lc):=(HP2d.out.only (P:=fun _=>False) ((Only.refl _ _).alloc _) (fun h=>h)).c902
        refine wp_region_held_drew (S:=fun w'=>Ptb w' w1.heap.size ⟨false,xf,xl⟩) (by kernel_rfl) HT2d.out (fun hHeld=>?_)
        refine wpAnyH_take (i:=0) (v:=Value.pointer (some ⟨g,0,none⟩)) rfl (by kernel_rfl) (by kernel_rfl) (by kernel_rfl) (fun _ _ _ h=>h) (Or.inl ⟨by rfl,fun w hSw=>by first | (go_simp;done) | go_simp⟩) (by assumption) ?_
        simp only [Act.put,List.setIfInBounds_toArray,List.set_cons_zero,List.set_cons_succ]
        refine wpAnyH_take (i:=1) (v:=Value.pointer (some ⟨g,0,none⟩)) rfl (by kernel_rfl) (by kernel_rfl) (by kernel_rfl) (fun _ _ _ h=>h) (Or.inl ⟨by rfl,fun w hSw=>by first | (go_simp;done) | go_simp⟩) (by assumption) ?_
        simp only [Act.put,List.setIfInBounds_toArray,List.set_cons_zero,List.set_cons_succ]
        refine wpAnyH_take (i:=2) (v:=Value.pointer (some ⟨g,0,none⟩)) rfl (by kernel_rfl) (by kernel_rfl) (by kernel_rfl) (fun _ _ _ h=>h) (Or.inl ⟨by rfl,fun w hSw=>by first | (go_simp;done) | go_simp⟩) (by assumption) ?_
        simp only [Act.put,List.setIfInBounds_toArray,List.set_cons_zero,List.set_cons_succ]
        refine wpAnyH_take (i:=3) (v:=Value.pointer (some ⟨g,902,none⟩)) rfl (by kernel_rfl) (by kernel_rfl) (by kernel_rfl) (fun _ _ _ h=>h) (Or.inl ⟨by rfl,fun w hSw=>by first | (go_simp;done) | go_simp⟩) (by assumption) ?_
        simp only [Act.put,List.setIfInBounds_toArray,List.set_cons_zero,List.set_cons_succ]
        refine wpAnyH_take (i:=5) (v:=Value.pointer (some ⟨w1.heap.size,5,none⟩)) rfl (by kernel_rfl) (by kernel_rfl) (by kernel_rfl) (fun _ _ _ h=>h) (Or.inl ⟨by rfl,fun w hSw=>by first | (go_simp;done) | go_simp⟩) (by assumption) ?_
        simp only [Act.put,List.setIfInBounds_toArray,List.set_cons_zero,List.set_cons_succ]
        refine wpAnyH_take (i:=6) (v:=Value.agg #[.int .u64 (wd xl 0:Int),.int .u64 (wd xl 1:Int),.int .u64 (wd xl 2:Int),.int .u64 (wd xl 3:Int)]) rfl (by kernel_rfl) (by kernel_rfl) (by kernel_rfl) (fun _ _ _ h=>h) (Or.inl ⟨by rfl,fun w hSw=>by have q0:=hSw.l 0 (by decide);have q1:=hSw.l 1 (by decide);have q2:=hSw.l 2 (by decide);have q3:=hSw.l 3 (by decide);simp only [Nat.reduceAdd] at q0 q1 q2 q3;clear hSw;go_simp⟩) (by assumption) ?_
        simp only [Act.put,List.setIfInBounds_toArray,List.set_cons_zero,List.set_cons_succ]
        refine wpAnyH_ready (rs:=[4,7]) (by kernel_rfl) (by simp) ?_
        refine AllReadyH.cons rfl (fun K hK=>?_) (AllReadyH.cons rfl (fun K hK=>?_) AllReadyH.nil)
        · rw [if_pos (by rfl)]
          go_simp
          refine hK.out _ _ HT2d.out (fun hHeld2=>?_)
          clear hK
          refine wpAnyH_ready (rs:=[7]) (by kernel_rfl) (by simp) ?_
          refine AllReadyH.cons rfl (fun K hK=>?_) AllReadyH.nil
          rw [if_pos (by rfl)]
          go_simp
          refine hK.out _ _ (HT2d.out.only (P:=fun _=>False) ((Only.refl _ _).alloc _) (fun h=>h)) (fun hHeld3=>?_)
          clear hK
          refine wpAnyH_ready (rs:=[8]) (by kernel_rfl) (by simp) ?_
          refine AllReadyH.cons rfl (fun K hK=>?_) AllReadyH.nil
          refine step_of_wp rfl (wp_append_at _ _ _ 98 rfl (g+1) 95 i9 _ 4 32 Tryz.underlying98 h9 h90 h91 h92 rfl (by decide) (.slice la Ls.length lc) Ls.length (flS Ls) rfl (HL2d.out.alloc _) ⟨w2.heap.size,0,none⟩ 1 1 (sC xl).toList rfl rfl (sC_news _ _) (sC_cells _) (by unfold maxLen;omega) (by omega) (by simp;omega) ?_)
          intro v5 w5 hown5 hg5
          have hO5:Only (fun h=>g+1≤h) (w2.drew.alloc (.cells (sC xl) 95)) w5:=(Only.refl _ _).grown hg5 (fun k hk=>(HL2d.out.lt k hk).1)
          have hPl5:Plb w5 g cl p1.sets.length (byP cl p1) p1.next (fs ||| xf) (.slice la Ls.length lc) em:=(HP2d.out.only (P:=fun _=>False) ((Only.refl _ _).alloc _) (fun h=>h)).only hO5 (by omega)
          have hT5:Ptb w5 w1.heap.size ⟨false,xf,xl⟩:=by
            refine (HT2d.out.only (P:=fun _=>False) ((Only.refl _ _).alloc _) (fun h=>h)).only ((Only.refl (fun h=>(Value.slice la Ls.length lc).ownBlock=some h) _).grown hg5 (fun k hk=>hk)) (fun e=>?_)
            exact own_notag HL2d.out 113 (by decide) _ e _ _ HT2d.out
          obtain ⟨gv,capv,rfl,hgb5,hgl5,hgc5,_⟩:=row_form hown5 (by omega)
          refine hK.out _ _ hT5 (fun hHeldA=>?_)
          clear hK
          have d2:=hPl5.c902
          have g2:=hPl5.fz 902
          try simp only [Act.put,List.setIfInBounds_toArray,List.set_cons_zero,List.set_cons_succ]
          refine wpAnyH_take (i:=9) (v:=Value.pointer (some ⟨g,0,none⟩)) rfl (by kernel_rfl) (by kernel_rfl) (by kernel_rfl) (fun _ _ _ h=>h) (Or.inl ⟨by rfl,fun w hSw=>by first | (go_simp;done) | go_simp⟩) (by assumption) ?_
          simp only [Act.put,List.setIfInBounds_toArray,List.set_cons_zero,List.set_cons_succ]
          refine wpAnyH_take (i:=10) (v:=Value.pointer (some ⟨g,902,none⟩)) rfl (by kernel_rfl) (by kernel_rfl) (by kernel_rfl) (fun _ _ _ h=>h) (Or.inl ⟨by rfl,fun w hSw=>by first | (go_simp;done) | go_simp⟩) (by assumption) ?_
          simp only [Act.put,List.setIfInBounds_toArray,List.set_cons_zero,List.set_cons_succ]
          refine wpAnyH_ready (rs:=[11]) (by kernel_rfl) (by simp) ?_
          refine AllReadyH.cons rfl (fun K hK=>?_) AllReadyH.nil
          rw [if_pos (by rfl)]
          go_simp
          refine hK.out _ _ (hT5.only ((Only.refl (·=g) _).setCell (p:=⟨g,902,none⟩) rfl _) (by omega)) (fun hHeldB=>?_)
          clear hK
          refine wpAnyH_done (by kernel_rfl) ?_ _
          clear hHeldA hHeldB
          go_wp2_with fail
          go_ret
          refine ⟨rfl,⟨.slice (some ⟨gv,0,none⟩) (Ls.length+1) capv,?_,?_⟩,?_⟩
          · have h6:=heap_setCell_at (k:=902) hPl5 (.slice (some ⟨gv,0,none⟩) (Ls.length+1) capv)
            rw [pC_setL] at h6
            exact h6
          · rw [flS_snoc]
            exact own_only hown5 ((Only.refl (·=g) _).setCell (p:=⟨g,902,none⟩) rfl _) (fun b hb=>by omega)
          · exact Only.setCell (S:=fun h=>g≤h) (((HO2.out.drew).alloc _).trans (hO5.mono (fun _ h=>by omega))) (p:=⟨g,902,none⟩) (Nat.le_refl g) _
        · rw [if_pos (by rfl)]
          go_simp
          refine hK.out _ _ (HT2d.out.only (P:=fun _=>False) ((Only.refl _ _).alloc _) (fun h=>h)) (fun hHeld2=>?_)
          clear hK
          refine wpAnyH_ready (rs:=[4]) (by kernel_rfl) (by simp) ?_
          refine AllReadyH.cons rfl (fun K hK=>?_) AllReadyH.nil
          rw [if_pos (by rfl)]
          go_simp
          refine hK.out _ _ (HT2d.out.only (P:=fun _=>False) ((Only.refl _ _).alloc _) (fun h=>h)) (fun hHeld3=>?_)
          clear hK
          refine wpAnyH_ready (rs:=[8]) (by kernel_rfl) (by simp) ?_
          refine AllReadyH.cons rfl (fun K hK=>?_) AllReadyH.nil
          refine step_of_wp rfl (wp_append_at _ _ _ 98 rfl (g+1) 95 i9 _ 4 32 Tryz.underlying98 h9 h90 h91 h92 rfl (by decide) (.slice la Ls.length lc) Ls.length (flS Ls) rfl (HL2d.out.alloc _) ⟨w2.heap.size,0,none⟩ 1 1 (sC xl).toList rfl rfl (sC_news _ _) (sC_cells _) (by unfold maxLen;omega) (by omega) (by simp;omega) ?_)
          intro v5 w5 hown5 hg5
          have hO5:Only (fun h=>g+1≤h) (w2.drew.alloc (.cells (sC xl) 95)) w5:=(Only.refl _ _).grown hg5 (fun k hk=>(HL2d.out.lt k hk).1)
          have hPl5:Plb w5 g cl p1.sets.length (byP cl p1) p1.next (fs ||| xf) (.slice la Ls.length lc) em:=(HP2d.out.only (P:=fun _=>False) ((Only.refl _ _).alloc _) (fun h=>h)).only hO5 (by omega)
          have hT5:Ptb w5 w1.heap.size ⟨false,xf,xl⟩:=by
            refine (HT2d.out.only (P:=fun _=>False) ((Only.refl _ _).alloc _) (fun h=>h)).only ((Only.refl (fun h=>(Value.slice la Ls.length lc).ownBlock=some h) _).grown hg5 (fun k hk=>hk)) (fun e=>?_)
            exact own_notag HL2d.out 113 (by decide) _ e _ _ HT2d.out
          obtain ⟨gv,capv,rfl,hgb5,hgl5,hgc5,_⟩:=row_form hown5 (by omega)
          refine hK.out _ _ hT5 (fun hHeldA=>?_)
          clear hK
          have d2:=hPl5.c902
          have g2:=hPl5.fz 902
          try simp only [Act.put,List.setIfInBounds_toArray,List.set_cons_zero,List.set_cons_succ]
          refine wpAnyH_take (i:=9) (v:=Value.pointer (some ⟨g,0,none⟩)) rfl (by kernel_rfl) (by kernel_rfl) (by kernel_rfl) (fun _ _ _ h=>h) (Or.inl ⟨by rfl,fun w hSw=>by first | (go_simp;done) | go_simp⟩) (by assumption) ?_
          simp only [Act.put,List.setIfInBounds_toArray,List.set_cons_zero,List.set_cons_succ]
          refine wpAnyH_take (i:=10) (v:=Value.pointer (some ⟨g,902,none⟩)) rfl (by kernel_rfl) (by kernel_rfl) (by kernel_rfl) (fun _ _ _ h=>h) (Or.inl ⟨by rfl,fun w hSw=>by first | (go_simp;done) | go_simp⟩) (by assumption) ?_
          simp only [Act.put,List.setIfInBounds_toArray,List.set_cons_zero,List.set_cons_succ]
          refine wpAnyH_ready (rs:=[11]) (by kernel_rfl) (by simp) ?_
          refine AllReadyH.cons rfl (fun K hK=>?_) AllReadyH.nil
          rw [if_pos (by rfl)]
          go_simp
          refine hK.out _ _ (hT5.only ((Only.refl (·=g) _).setCell (p:=⟨g,902,none⟩) rfl _) (by omega)) (fun hHeldB=>?_)
          clear hK
          refine wpAnyH_done (by kernel_rfl) ?_ _
          clear hHeldA hHeldB
          go_wp2_with fail
          go_ret
          refine ⟨rfl,⟨.slice (some ⟨gv,0,none⟩) (Ls.length+1) capv,?_,?_⟩,?_⟩
          · have h6:=heap_setCell_at (k:=902) hPl5 (.slice (some ⟨gv,0,none⟩) (Ls.length+1) capv)
            rw [pC_setL] at h6
            exact h6
          · rw [flS_snoc]
            exact own_only hown5 ((Only.refl (·=g) _).setCell (p:=⟨g,902,none⟩) rfl _) (fun b hb=>by omega)
          · exact Only.setCell (S:=fun h=>g≤h) (((HO2.out.drew).alloc _).trans (hO5.mono (fun _ h=>by omega))) (p:=⟨g,902,none⟩) (Nat.le_refl g) _
    · go_enter Tryz.func35,Tryz.ntmps35
      go_wp2_with (go_at_call 54;have hc:=HC.out;rw [HN.out] at hc;refine hc.mono ?_;clear hc;rintro e w1 ⟨rfl,hp1,ho1⟩;have HP1:Hid (Plm w1 g cl p1 fs (.slice la Ls.length lc) em):=hp1;have HO1:Hid (Only (fun h=>g≤h) w w1):=(HO0.out.mono (fun _ h=>h.elim)).trans (ho1.mono (fun _ h=>by omega));have HL1:Hid (w1.ownsRow (g+1) 95 4 (.slice la Ls.length lc) Ls.length (flS Ls)):=own_only (own_only HL.out HO0.out (fun _ _ h=>h)) ho1 (fun b hb=>by omega);clear hp1 ho1;unfold ptV ptC)
      have HPW:Hid (Plm (w1.alloc (.cells (ptC ⟨true,xf,xl⟩) 113)) g cl p1 fs (.slice la Ls.length lc) em):=HP1.out.only (P:=fun _=>False) ((Only.refl _ _).alloc _) (fun h=>h)
      have HTW:Hid (Ptb (w1.alloc (.cells (ptC ⟨true,xf,xl⟩) 113)) w1.heap.size ⟨true,xf,xl⟩):=heap_alloc_new _ _
      have HLW:Hid ((w1.alloc (.cells (ptC ⟨true,xf,xl⟩) 113)).ownsRow (g+1) 95 4 (.slice la Ls.length lc) Ls.length (flS Ls)):=HL1.out.alloc _
      have HOW:Hid (Only (fun h=>g≤h) w (w1.alloc (.cells (ptC ⟨true,xf,xl⟩) 113))):=HO1.out.alloc _
      have hg1:g < w1.heap.size:=HP1.out.lt
      unfold ptC at HPW HTW HLW HOW
      generalize w1.alloc (.cells #[.bool true,.int .u64 (wd xf 0:Int),.int .u64 (wd xf 1:Int),.int .u64 (wd xf 2:Int),.int .u64 (wd xf 3:Int),.int .u64 (wd xl 0:Int),.int .u64 (wd xl 1:Int),.int .u64 (wd xl 2:Int),.int .u64 (wd xl 3:Int)] 113)=Wa at HPW HTW HLW HOW ⊢
      have k902:=HPW.out.c902
      have k903:=HPW.out.c903
      have f903:=HPW.out.fz 903
      have hor:=or_shl HM.out hl
      rw [IntKind.wrap_u32] at hor
      have HOR:Hid (bits .or .u32 (em:Int) (2 ^ Ls.length % 4294967296)=((em ||| 2 ^ Ls.length:Nat):Int)):=hor
      clear hor
      have hO3:Only (·=g) Wa (Wa.setCell ⟨g,903,none⟩ (.int .u32 (bits .or .u32 (em:Int) (2 ^ Ls.length % 4294967296)))).drew:=((Only.refl (·=g) _).setCell (p:=⟨g,903,none⟩) rfl _).drew
      have HPX:Hid (Plm (Wa.setCell ⟨g,903,none⟩ (.int .u32 (bits .or .u32 (em:Int) (2 ^ Ls.length % 4294967296)))).drew g cl p1 fs (.slice la Ls.length lc) (em ||| 2 ^ Ls.length)):=by
        rw [HOR.out]
        have h:=heap_setCell_at (k:=903) HPW.out (.int .u32 ((em ||| 2 ^ Ls.length:Nat):Int))
        rw [pC_setE] at h
        exact h
      have HTX:Hid (Ptb (Wa.setCell ⟨g,903,none⟩ (.int .u32 (bits .or .u32 (em:Int) (2 ^ Ls.length % 4294967296)))).drew w1.heap.size ⟨true,xf,xl⟩):=HTW.out.only hO3 (by omega)
      have HLX:Hid ((Wa.setCell ⟨g,903,none⟩ (.int .u32 (bits .or .u32 (em:Int) (2 ^ Ls.length % 4294967296)))).drew.ownsRow (g+1) 95 4 (.slice la Ls.length lc) Ls.length (flS Ls)):=own_only HLW.out hO3 (fun b hb=>by omega)
      have HOX:Hid (Only (fun h=>g≤h) w (Wa.setCell ⟨g,903,none⟩ (.int .u32 (bits .or .u32 (em:Int) (2 ^ Ls.length % 4294967296)))).drew):=HOW.out.trans (hO3.mono (fun _ h=>by omega))
      clear hO3
      go_region
      generalize (Wa.setCell ⟨g,903,none⟩ (.int .u32 (bits .or .u32 (em:Int) (2 ^ Ls.length % 4294967296)))).drew=Wb at HPX HTX HLX HOX ⊢
      clear HPW HTW HLW HOW k902 k903 f903
      have HLW:=HLX
      have t1:Wb.cell? ⟨w1.heap.size,1,none⟩=some (.int .u64 (wd xf 0:Int)):=HTX.out.f 0 (by decide)
      have t2:Wb.cell? ⟨w1.heap.size,2,none⟩=some (.int .u64 (wd xf 1:Int)):=HTX.out.f 1 (by decide)
      have t3:Wb.cell? ⟨w1.heap.size,3,none⟩=some (.int .u64 (wd xf 2:Int)):=HTX.out.f 2 (by decide)
      have t4:Wb.cell? ⟨w1.heap.size,4,none⟩=some (.int .u64 (wd xf 3:Int)):=HTX.out.f 3 (by decide)
      go_wp2_with fail
      go_region_with (go_at_call 55;refine (add_any g 898 fs xf _ 100 _ (HPX.out.only (Only.refl (fun _=>False) _).drew (fun h=>h)) (pC_first _ _ _ _ _ _ _)).mono ?_;rintro e w2 ⟨rfl,hp2,ho2⟩;rw [pC_putFirst] at hp2;have HP2:Hid (Plb w2 g cl p1.sets.length (byP cl p1) p1.next (fs ||| xf) (.slice la Ls.length lc) (em ||| 2 ^ Ls.length)):=hp2;have HT2:Hid (Ptb w2 w1.heap.size ⟨true,xf,xl⟩):=(HTX.out.only (Only.refl (fun _=>False) _).drew (fun h=>h)).only ho2 (by omega);have HL2:Hid (w2.ownsRow (g+1) 95 4 (.slice la Ls.length lc) Ls.length (flS Ls)):=own_only (own_only HLW.out (Only.refl (fun _=>False) _).drew (fun _ _ h=>h)) ho2 (fun b hb=>by omega);have HO2:Hid (Only (fun h=>g≤h) w w2):=(HOX.out.drew).trans (ho2.mono (fun _ h=>by omega));clear hp2 ho2)
      all_goals
        go_wp2_with fail
        have HT2d:Hid (Ptb w2.drew w1.heap.size ⟨true,xf,xl⟩):=HT2.out.only (Only.refl (fun _=>False) _).drew (fun h=>h)
        have HP2d:Hid (Plb w2.drew g cl p1.sets.length (byP cl p1) p1.next (fs ||| xf) (.slice la Ls.length lc) (em ||| 2 ^ Ls.length)):=HP2.out.only (Only.refl (fun _=>False) _).drew (fun h=>h)
        have HL2d:Hid (w2.drew.ownsRow (g+1) 95 4 (.slice la Ls.length lc) Ls.length (flS Ls)):=own_only HL2.out (Only.refl (fun _=>False) _).drew (fun _ _ h=>h)
        have hg2:g < w2.heap.size:=HP2.out.lt
        have d902:=HP2d.out.c902
        have d902c:(w2.alloc (.cells #[.int .u64 (wd xl 0:Int),.int .u64 (wd xl 1:Int),.int .u64 (wd xl 2:Int),.int .u64 (wd xl 3:Int)] 95)).drew.cell? ⟨g,902,none⟩=some (.slice la Ls.length lc):=(HP2.out.only (P:=fun _=>False) ((Only.refl _ _).alloc _).drew (fun h=>h)).c902
        have d902e:(w2.alloc (.cells #[.int .u64 (wd xl 0:Int),.int .u64 (wd xl 1:Int),.int .u64 (wd xl 2:Int),.int .u64 (wd xl 3:Int)] 95)).cell? ⟨g,902,none⟩=some (.slice la Ls.length lc):=(HP2.out.only (P:=fun _=>False) ((Only.refl _ _).alloc _) (fun h=>h)).c902
        have d902b:(w2.drew.alloc (.cells #[.int .u64 (wd xl 0:Int),.int .u64 (wd xl 1:Int),.int .u64 (wd xl 2:Int),.int .u64 (wd xl 3:Int)] 95)).cell? ⟨g,902,none⟩=some (.slice la Ls.length lc):=(HP2d.out.only (P:=fun _=>False) ((Only.refl _ _).alloc _) (fun h=>h)).c902
        refine wp_region_held_drew (S:=fun w'=>Ptb w' w1.heap.size ⟨true,xf,xl⟩) (by kernel_rfl) HT2d.out (fun hHeld=>?_)
        refine wpAnyH_take (i:=0) (v:=Value.pointer (some ⟨g,0,none⟩)) rfl (by kernel_rfl) (by kernel_rfl) (by kernel_rfl) (fun _ _ _ h=>h) (Or.inl ⟨by rfl,fun w hSw=>by first | (go_simp;done) | go_simp⟩) (by assumption) ?_
        simp only [Act.put,List.setIfInBounds_toArray,List.set_cons_zero,List.set_cons_succ]
        refine wpAnyH_take (i:=1) (v:=Value.pointer (some ⟨g,0,none⟩)) rfl (by kernel_rfl) (by kernel_rfl) (by kernel_rfl) (fun _ _ _ h=>h) (Or.inl ⟨by rfl,fun w hSw=>by first | (go_simp;done) | go_simp⟩) (by assumption) ?_
        simp only [Act.put,List.setIfInBounds_toArray,List.set_cons_zero,List.set_cons_succ]
        refine wpAnyH_take (i:=2) (v:=Value.pointer (some ⟨g,0,none⟩)) rfl (by kernel_rfl) (by kernel_rfl) (by kernel_rfl) (fun _ _ _ h=>h) (Or.inl ⟨by rfl,fun w hSw=>by first | (go_simp;done) | go_simp⟩) (by assumption) ?_
        simp only [Act.put,List.setIfInBounds_toArray,List.set_cons_zero,List.set_cons_succ]
        refine wpAnyH_take (i:=3) (v:=Value.pointer (some ⟨g,902,none⟩)) rfl (by kernel_rfl) (by kernel_rfl) (by kernel_rfl) (fun _ _ _ h=>h) (Or.inl ⟨by rfl,fun w hSw=>by first | (go_simp;done) | go_simp⟩) (by assumption) ?_
        simp only [Act.put,List.setIfInBounds_toArray,List.set_cons_zero,List.set_cons_succ]
        refine wpAnyH_take (i:=5) (v:=Value.pointer (some ⟨w1.heap.size,5,none⟩)) rfl (by kernel_rfl) (by kernel_rfl) (by kernel_rfl) (fun _ _ _ h=>h) (Or.inl ⟨by rfl,fun w hSw=>by first | (go_simp;done) | go_simp⟩) (by assumption) ?_
        simp only [Act.put,List.setIfInBounds_toArray,List.set_cons_zero,List.set_cons_succ]
        refine wpAnyH_take (i:=6) (v:=Value.agg #[.int .u64 (wd xl 0:Int),.int .u64 (wd xl 1:Int),.int .u64 (wd xl 2:Int),.int .u64 (wd xl 3:Int)]) rfl (by kernel_rfl) (by kernel_rfl) (by kernel_rfl) (fun _ _ _ h=>h) (Or.inl ⟨by rfl,fun w hSw=>by have q0:=hSw.l 0 (by decide);have q1:=hSw.l 1 (by decide);have q2:=hSw.l 2 (by decide);have q3:=hSw.l 3 (by decide);simp only [Nat.reduceAdd] at q0 q1 q2 q3;clear hSw;go_simp⟩) (by assumption) ?_
        simp only [Act.put,List.setIfInBounds_toArray,List.set_cons_zero,List.set_cons_succ]
        refine wpAnyH_ready (rs:=[4,7]) (by kernel_rfl) (by simp) ?_
        refine AllReadyH.cons rfl (fun K hK=>?_) (AllReadyH.cons rfl (fun K hK=>?_) AllReadyH.nil)
        · rw [if_pos (by rfl)]
          go_simp
          refine hK.out _ _ HT2d.out (fun hHeld2=>?_)
          clear hK
          refine wpAnyH_ready (rs:=[7]) (by kernel_rfl) (by simp) ?_
          refine AllReadyH.cons rfl (fun K hK=>?_) AllReadyH.nil
          rw [if_pos (by rfl)]
          go_simp
          refine hK.out _ _ (HT2d.out.only (P:=fun _=>False) ((Only.refl _ _).alloc _) (fun h=>h)) (fun hHeld3=>?_)
          clear hK
          refine wpAnyH_ready (rs:=[8]) (by kernel_rfl) (by simp) ?_
          refine AllReadyH.cons rfl (fun K hK=>?_) AllReadyH.nil
          refine step_of_wp rfl (wp_append_at _ _ _ 98 rfl (g+1) 95 i9 _ 4 32 Tryz.underlying98 h9 h90 h91 h92 rfl (by decide) (.slice la Ls.length lc) Ls.length (flS Ls) rfl (HL2d.out.alloc _) ⟨w2.heap.size,0,none⟩ 1 1 (sC xl).toList rfl rfl (sC_news _ _) (sC_cells _) (by unfold maxLen;omega) (by omega) (by simp;omega) ?_)
          intro v5 w5 hown5 hg5
          have hO5:Only (fun h=>g+1≤h) (w2.drew.alloc (.cells (sC xl) 95)) w5:=(Only.refl _ _).grown hg5 (fun k hk=>(HL2d.out.lt k hk).1)
          have hPl5:Plb w5 g cl p1.sets.length (byP cl p1) p1.next (fs ||| xf) (.slice la Ls.length lc) (em ||| 2 ^ Ls.length):=(HP2d.out.only (P:=fun _=>False) ((Only.refl _ _).alloc _) (fun h=>h)).only hO5 (by omega)
          have hT5:Ptb w5 w1.heap.size ⟨true,xf,xl⟩:=by
            refine (HT2d.out.only (P:=fun _=>False) ((Only.refl _ _).alloc _) (fun h=>h)).only ((Only.refl (fun h=>(Value.slice la Ls.length lc).ownBlock=some h) _).grown hg5 (fun k hk=>hk)) (fun e=>?_)
            exact own_notag HL2d.out 113 (by decide) _ e _ _ HT2d.out
          obtain ⟨gv,capv,rfl,hgb5,hgl5,hgc5,_⟩:=row_form hown5 (by omega)
          refine hK.out _ _ hT5 (fun hHeldA=>?_)
          clear hK
          have d2:=hPl5.c902
          have g2:=hPl5.fz 902
          try simp only [Act.put,List.setIfInBounds_toArray,List.set_cons_zero,List.set_cons_succ]
          refine wpAnyH_take (i:=9) (v:=Value.pointer (some ⟨g,0,none⟩)) rfl (by kernel_rfl) (by kernel_rfl) (by kernel_rfl) (fun _ _ _ h=>h) (Or.inl ⟨by rfl,fun w hSw=>by first | (go_simp;done) | go_simp⟩) (by assumption) ?_
          simp only [Act.put,List.setIfInBounds_toArray,List.set_cons_zero,List.set_cons_succ]
          refine wpAnyH_take (i:=10) (v:=Value.pointer (some ⟨g,902,none⟩)) rfl (by kernel_rfl) (by kernel_rfl) (by kernel_rfl) (fun _ _ _ h=>h) (Or.inl ⟨by rfl,fun w hSw=>by first | (go_simp;done) | go_simp⟩) (by assumption) ?_
          simp only [Act.put,List.setIfInBounds_toArray,List.set_cons_zero,List.set_cons_succ]
          refine wpAnyH_ready (rs:=[11]) (by kernel_rfl) (by simp) ?_
          refine AllReadyH.cons rfl (fun K hK=>?_) AllReadyH.nil
          rw [if_pos (by rfl)]
          go_simp
          refine hK.out _ _ (hT5.only ((Only.refl (·=g) _).setCell (p:=⟨g,902,none⟩) rfl _) (by omega)) (fun hHeldB=>?_)
          clear hK
          refine wpAnyH_done (by kernel_rfl) ?_ _
          clear hHeldA hHeldB
          go_wp2_with fail
          go_ret
          refine ⟨rfl,⟨.slice (some ⟨gv,0,none⟩) (Ls.length+1) capv,?_,?_⟩,?_⟩
          · have h6:=heap_setCell_at (k:=902) hPl5 (.slice (some ⟨gv,0,none⟩) (Ls.length+1) capv)
            rw [pC_setL] at h6
            exact h6
          · rw [flS_snoc]
            exact own_only hown5 ((Only.refl (·=g) _).setCell (p:=⟨g,902,none⟩) rfl _) (fun b hb=>by omega)
          · exact Only.setCell (S:=fun h=>g≤h) (((HO2.out.drew).alloc _).trans (hO5.mono (fun _ h=>by omega))) (p:=⟨g,902,none⟩) (Nat.le_refl g) _
        · rw [if_pos (by rfl)]
          go_simp
          refine hK.out _ _ (HT2d.out.only (P:=fun _=>False) ((Only.refl _ _).alloc _) (fun h=>h)) (fun hHeld2=>?_)
          clear hK
          refine wpAnyH_ready (rs:=[4]) (by kernel_rfl) (by simp) ?_
          refine AllReadyH.cons rfl (fun K hK=>?_) AllReadyH.nil
          rw [if_pos (by rfl)]
          go_simp
          refine hK.out _ _ (HT2d.out.only (P:=fun _=>False) ((Only.refl _ _).alloc _) (fun h=>h)) (fun hHeld3=>?_)
          clear hK
          refine wpAnyH_ready (rs:=[8]) (by kernel_rfl) (by simp) ?_
          refine AllReadyH.cons rfl (fun K hK=>?_) AllReadyH.nil
          refine step_of_wp rfl (wp_append_at _ _ _ 98 rfl (g+1) 95 i9 _ 4 32 Tryz.underlying98 h9 h90 h91 h92 rfl (by decide) (.slice la Ls.length lc) Ls.length (flS Ls) rfl (HL2d.out.alloc _) ⟨w2.heap.size,0,none⟩ 1 1 (sC xl).toList rfl rfl (sC_news _ _) (sC_cells _) (by unfold maxLen;omega) (by omega) (by simp;omega) ?_)
          intro v5 w5 hown5 hg5
          have hO5:Only (fun h=>g+1≤h) (w2.drew.alloc (.cells (sC xl) 95)) w5:=(Only.refl _ _).grown hg5 (fun k hk=>(HL2d.out.lt k hk).1)
          have hPl5:Plb w5 g cl p1.sets.length (byP cl p1) p1.next (fs ||| xf) (.slice la Ls.length lc) (em ||| 2 ^ Ls.length):=(HP2d.out.only (P:=fun _=>False) ((Only.refl _ _).alloc _) (fun h=>h)).only hO5 (by omega)
          have hT5:Ptb w5 w1.heap.size ⟨true,xf,xl⟩:=by
            refine (HT2d.out.only (P:=fun _=>False) ((Only.refl _ _).alloc _) (fun h=>h)).only ((Only.refl (fun h=>(Value.slice la Ls.length lc).ownBlock=some h) _).grown hg5 (fun k hk=>hk)) (fun e=>?_)
            exact own_notag HL2d.out 113 (by decide) _ e _ _ HT2d.out
          obtain ⟨gv,capv,rfl,hgb5,hgl5,hgc5,_⟩:=row_form hown5 (by omega)
          refine hK.out _ _ hT5 (fun hHeldA=>?_)
          clear hK
          have d2:=hPl5.c902
          have g2:=hPl5.fz 902
          try simp only [Act.put,List.setIfInBounds_toArray,List.set_cons_zero,List.set_cons_succ]
          refine wpAnyH_take (i:=9) (v:=Value.pointer (some ⟨g,0,none⟩)) rfl (by kernel_rfl) (by kernel_rfl) (by kernel_rfl) (fun _ _ _ h=>h) (Or.inl ⟨by rfl,fun w hSw=>by first | (go_simp;done) | go_simp⟩) (by assumption) ?_
          simp only [Act.put,List.setIfInBounds_toArray,List.set_cons_zero,List.set_cons_succ]
          refine wpAnyH_take (i:=10) (v:=Value.pointer (some ⟨g,902,none⟩)) rfl (by kernel_rfl) (by kernel_rfl) (by kernel_rfl) (fun _ _ _ h=>h) (Or.inl ⟨by rfl,fun w hSw=>by first | (go_simp;done) | go_simp⟩) (by assumption) ?_
          simp only [Act.put,List.setIfInBounds_toArray,List.set_cons_zero,List.set_cons_succ]
          refine wpAnyH_ready (rs:=[11]) (by kernel_rfl) (by simp) ?_
          refine AllReadyH.cons rfl (fun K hK=>?_) AllReadyH.nil
          rw [if_pos (by rfl)]
          go_simp
          refine hK.out _ _ (hT5.only ((Only.refl (·=g) _).setCell (p:=⟨g,902,none⟩) rfl _) (by omega)) (fun hHeldB=>?_)
          clear hK
          refine wpAnyH_done (by kernel_rfl) ?_ _
          clear hHeldA hHeldB
          go_wp2_with fail
          go_ret
          refine ⟨rfl,⟨.slice (some ⟨gv,0,none⟩) (Ls.length+1) capv,?_,?_⟩,?_⟩
          · have h6:=heap_setCell_at (k:=902) hPl5 (.slice (some ⟨gv,0,none⟩) (Ls.length+1) capv)
            rw [pC_setL] at h6
            exact h6
          · rw [flS_snoc]
            exact own_only hown5 ((Only.refl (·=g) _).setCell (p:=⟨g,902,none⟩) rfl _) (fun b hb=>by omega)
          · exact Only.setCell (S:=fun h=>g≤h) (((HO2.out.drew).alloc _).trans (hO5.mono (fun _ h=>by omega))) (p:=⟨g,902,none⟩) (Nat.le_refl g) _
end Go.Proofs.YtchaoonefiamdaaGreatDoor
