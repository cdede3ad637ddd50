/- Kinds Catch Len2 -/
import Derived.Test.YtchaoonefiamdaaGreatDoorZ22
import Derived.Recover
import Derived.Laws.Pointers
namespace Go.Proofs.YtchaoonefiamdaaGreatDoor
open Go.RowKit Go.Maps
set_option linter.unusedVariables false
set_option linter.unusedSimpArgs false
def Rf (v:Value):Option (DataW Unit × List MemPlace) :=
  match v with
  | .func (.func n) ⟨[]⟩ ⟨[]⟩=>some (.lit (.int .i64 n),[])
  | .nilFunc=>some (.lit (.int .i64 (-1)),[])
  | _=>none
theorem Rf_inv {v:Value} {n:Nat} {ps:List MemPlace} (h:Rf v=some (.lit (.int .i64 (n:Int)),ps)):v=.func (.func n) #[] #[]:=by
  unfold Rf at h
  split at h
  · simp only [Option.some.injEq,Prod.mk.injEq] at h
    have h2:=(Lit.int.inj (DataW.lit.inj h.1)).2
    have:(_:Nat)=n:=Int.ofNat.inj h2
    rw [this]
  · simp only [Option.some.injEq,Prod.mk.injEq] at h
    have h2:=(Lit.int.inj (DataW.lit.inj h.1)).2
    omega
  · cases h
theorem zero82 (w:World):(zeroValue 81).run Tryz.prog w=.ok .nilFunc w:=by kernel_rfl
def fnLit (n:Nat):DataW Unit:=.lit (.int .i64 (n:Int))
def kindsD:DataW Unit:=((((((((DataW.map []).put (.string Rl.wClass) (fnLit 40)).put (.string Rl.wSet) (fnLit 41)).put (.string Rl.wJoin) (fnLit 42)).put (.string Rl.wTreat) (fnLit 43)).put (.string Rl.wKeep) (fnLit 44)).put (.string Rl.wMay) (fnLit 45)).put (.string Rl.wMust) (fnLit 46))
def Kn (w:World) (kb:Nat):Prop:=w.ownsMap Tryz.prog 9 Rf kb 7 kindsD
theorem Kn.only {w w':World} {kb:Nat} {P:Nat→Prop} (h:Kn w kb) (ho:Only P w w') (hn:¬ P kb):Kn w' kb:=by
  obtain ⟨es,cl,h1,h2⟩:=h
  exact ⟨es,cl,(ho.block kb (Array.getElem?_eq_some_iff.1 h1).1 hn).trans h1,h2⟩
theorem Kn.look {w:World} {kb:Nat} (h:Kn w kb) {s:Rl.Str} (hs:s.length≤4096):∃ v ps,(Instr.lookup 76 (.map (some kb)) (.string (bs s)) true).run Tryz.prog w=.ok (.tuple #[v,.bool (Maps.has kindsD (.string s))]) w∧Rf v=some (kindsD.atKey (.string s) (.lit (.int .i64 (-1))),ps) :=
  World.ownsMap.look_ok h law9 Tryz.underlying76 (zero82 w) (zd:=.lit (.int .i64 (-1))) (zp:=[]) rfl (key9 s hs)
set_option maxRecDepth 100000 in
set_option maxHeartbeats 4000000 in
theorem kinds_any (w:World):Calls Tryz.prog 29 #[] w fun e w'=>e=.returned (.map (some w.heap.size))∧Kn w' w.heap.size∧Only (fun _=>False) w w':=by
  have hmm:=@run_makeMap Tryz.prog
  go_enter Tryz.func29,Tryz.ntmps29
  have key:∀ s:Rl.Str,s.length≤4096→keyOf Tryz.prog 9 (.string (bs s))=some (.string s):=key9
  have HK:Hid (∀ s:Rl.Str,s.length≤4096→keyOf Tryz.prog 9 (.string (bs s))=some (.string s)):=key
  clear key
  have m0:Hid ((w.alloc (Obj.map #[] 0)).ownsMap Tryz.prog 9 Rf w.heap.size 0 (DataW.map []:DataW Unit)):=World.ownsMap_made w Tryz.prog 9 Rf
  go_wp2_with (first | (refine wpList_insert_own _ rfl _ _ _ 76 rfl 9 81 law9 Tryz.underlying76 Rf w.heap.size 0 _ rfl m0.out (by unfold maxLen;omega) _ _ _ rfl rfl (HK.out Rl.wClass (by decide)) (fnLit 40) [] rfl ?_;intro w1 m1 g1) | (refine wpList_insert_own _ rfl _ _ _ 76 rfl 9 81 law9 Tryz.underlying76 Rf w.heap.size 1 _ rfl m1 (by unfold maxLen;omega) _ _ _ rfl rfl (HK.out Rl.wSet (by decide)) (fnLit 41) [] rfl ?_;intro w2 m2 g2) | (refine wpList_insert_own _ rfl _ _ _ 76 rfl 9 81 law9 Tryz.underlying76 Rf w.heap.size 2 _ rfl m2 (by unfold maxLen;omega) _ _ _ rfl rfl (HK.out Rl.wJoin (by decide)) (fnLit 42) [] rfl ?_;intro w3 m3 g3) | (refine wpList_insert_own _ rfl _ _ _ 76 rfl 9 81 law9 Tryz.underlying76 Rf w.heap.size 3 _ rfl m3 (by unfold maxLen;omega) _ _ _ rfl rfl (HK.out Rl.wTreat (by decide)) (fnLit 43) [] rfl ?_;intro w4 m4 g4) | (refine wpList_insert_own _ rfl _ _ _ 76 rfl 9 81 law9 Tryz.underlying76 Rf w.heap.size 4 _ rfl m4 (by unfold maxLen;omega) _ _ _ rfl rfl (HK.out Rl.wKeep (by decide)) (fnLit 44) [] rfl ?_;intro w5 m5 g5) | (refine wpList_insert_own _ rfl _ _ _ 76 rfl 9 81 law9 Tryz.underlying76 Rf w.heap.size 5 _ rfl m5 (by unfold maxLen;omega) _ _ _ rfl rfl (HK.out Rl.wMay (by decide)) (fnLit 45) [] rfl ?_;intro w6 m6 g6) | (refine wpList_insert_own _ rfl _ _ _ 76 rfl 9 81 law9 Tryz.underlying76 Rf w.heap.size 6 _ rfl m6 (by unfold maxLen;omega) _ _ _ rfl rfl (HK.out Rl.wMust (by decide)) (fnLit 46) [] rfl ?_;intro w7 m7 g7))
  go_ret
  have hN:∀ {a b:World},a.grownBy b (some w.heap.size)→Only (·=w.heap.size) a b:=fun hg=>⟨hg.os,hg.tape,hg.output,hg.size,fun g hgl hn=>hg.block g hgl (fun e=>hn (by injection e))⟩
  have hO:Only (·=w.heap.size) (w.alloc (Obj.map #[] 0)) w7:=(hN g1).trans ((hN g2).trans ((hN g3).trans ((hN g4).trans ((hN g5).trans ((hN g6).trans (hN g7))))))
  refine ⟨rfl,m7,⟨hO.os,hO.tape,hO.output,Nat.le_trans (by simp) hO.size,fun g hg _=>(hO.block g (by simp;omega) (by omega)).trans (Below.heap_alloc _ _ _ hg)⟩⟩
end Go.Proofs.YtchaoonefiamdaaGreatDoor
namespace Go.Proofs.YtchaoonefiamdaaGreatDoor
open Go.RowKit Go.Maps
set_option linter.unusedVariables false
set_option linter.unusedSimpArgs false
theorem catch_idle (p q:Addr) (w:World) :
    CallsD Tryz.prog 15 #[.pointer (some p),.pointer (some q)] .returning w fun e u' w'=>e=.returned (.tuple #[])∧u'=.returning∧w'=w:=by
  refine callsD_of_wpS Tryz.func15 rfl fun c₀ cs hu=>?_
  apply wpS_seq
  apply wpS_region
  simp [wpOpsS,go_sem,recoverD,hu,Tryz.ntmps15,Exit.thenS]
  refine wpS_of_wp ?_
  go_wp2
  cases c₀
  simp_all [bodyPostS,results,Tryz.results15]
set_option maxRecDepth 100000 in
set_option maxHeartbeats 4000000 in
theorem catch_thrown (ob fb:Nat) (c i:Int) (v0 v1 v2 v3 v4 u0 u1:Value) (older:List PanicEntry) (w:World) (hO:w.heap[ob]?=some (.cells #[v0,v1,v2,v3,v4] 45 (0,0))) (hF:w.heap[fb]?=some (.cells #[u0,u1] 32 (0,0))) (hne:ob≠fb) :
    CallsD Tryz.prog 15 #[.pointer (some ⟨ob,0,none⟩),.pointer (some ⟨fb,0,none⟩)] (.panicking ({ v:=.iface 32 (.agg #[.int .i64 c,.int .i64 i]),recovered:=false } :: older)) w fun e u' w' =>
      e=.returned (.tuple #[])∧u'=.panicking ({ v:=.iface 32 (.agg #[.int .i64 c,.int .i64 i]),recovered:=true } :: older)∧w'.heap[ob]?=some (.cells #[.slice none 0 0,.int .u32 0,.int .u32 0,.slice none 0 0,.slice none 0 0] 45 (0,0))∧w'.heap[fb]?=some (.cells #[.int .i64 c,.int .i64 i] 32 (0,0))∧Only (fun b=>b=ob∨b=fb) w w':=by
  have a0:w.cell? ⟨ob,0,none⟩=some v0:=(cell_of_row _ _ _ _ _ _ hO).trans rfl
  have a1:w.cell? ⟨ob,1,none⟩=some v1:=(cell_of_row _ _ _ _ _ _ hO).trans rfl
  have a2:w.cell? ⟨ob,2,none⟩=some v2:=(cell_of_row _ _ _ _ _ _ hO).trans rfl
  have a3:w.cell? ⟨ob,3,none⟩=some v3:=(cell_of_row _ _ _ _ _ _ hO).trans rfl
  have a4:w.cell? ⟨ob,4,none⟩=some v4:=(cell_of_row _ _ _ _ _ _ hO).trans rfl
  have b0:w.cell? ⟨fb,0,none⟩=some u0:=(cell_of_row _ _ _ _ _ _ hF).trans rfl
  have b1:w.cell? ⟨fb,1,none⟩=some u1:=(cell_of_row _ _ _ _ _ _ hF).trans rfl
  have fo:∀ k,w.frozen? ⟨ob,k,none⟩=false:=fun k=>by simp [World.frozen?,hO]
  have ff:∀ k,w.frozen? ⟨fb,k,none⟩=false:=fun k=>by simp [World.frozen?,hF]
  have o0:=fo 0
  have o1:=fo 1
  have o2:=fo 2
  have o3:=fo 3
  have o4:=fo 4
  have g0:=ff 0
  have g1:=ff 1
  have hne':fb≠ob:=fun e=>hne e.symm
  have HO:Hid (w.heap[ob]?=some (.cells #[v0,v1,v2,v3,v4] 45 (0,0))):=hO
  have HF:Hid (w.heap[fb]?=some (.cells #[u0,u1] 32 (0,0))):=hF
  clear hO hF fo ff
  refine callsD_of_wpS Tryz.func15 rfl fun c₀ cs hu=>?_
  apply wpS_seq
  apply wpS_region
  simp [wpOpsS,go_sem,recoverD,hu,Tryz.ntmps15,Exit.thenS]
  refine wpS_of_wp ?_
  have hta:∀ w,(Instr.typeAssert (.iface 32 (.agg #[.int .i64 c,.int .i64 i])) 20 32 false).run Tryz.prog w=.ok (.agg #[.int .i64 c,.int .i64 i]) w:=fun w=>by kernel_rfl
  go_wp2
  go_region
  all_goals
    have hob:(((((w.setCell ⟨ob,0,none⟩ (Value.slice none 0 0)).setCell ⟨ob,1,none⟩ (Value.int .u32 0)).setCell ⟨ob,2,none⟩ (Value.int .u32 0)).setCell ⟨ob,3,none⟩ (Value.slice none 0 0)).setCell ⟨ob,4,none⟩ (Value.slice none 0 0)).heap[ob]?=some (.cells #[.slice none 0 0,.int .u32 0,.int .u32 0,.slice none 0 0,.slice none 0 0] 45 (0,0)):=heap_setCell_at (heap_setCell_at (heap_setCell_at (heap_setCell_at (heap_setCell_at HO.out _) _) _) _) _
    have hon:Only (fun b=>b=ob∨b=fb) w (((((w.setCell ⟨ob,0,none⟩ (Value.slice none 0 0)).setCell ⟨ob,1,none⟩ (Value.int .u32 0)).setCell ⟨ob,2,none⟩ (Value.int .u32 0)).setCell ⟨ob,3,none⟩ (Value.slice none 0 0)).setCell ⟨ob,4,none⟩ (Value.slice none 0 0)):=(((((Only.refl (fun b=>b=ob∨b=fb) w).setCell (p:=⟨ob,0,none⟩) (Or.inl rfl) _).setCell (p:=⟨ob,1,none⟩) (Or.inl rfl) _).setCell (p:=⟨ob,2,none⟩) (Or.inl rfl) _).setCell (p:=⟨ob,3,none⟩) (Or.inl rfl) _).setCell (p:=⟨ob,4,none⟩) (Or.inl rfl) _
    have hfb:(((((w.setCell ⟨ob,0,none⟩ (Value.slice none 0 0)).setCell ⟨ob,1,none⟩ (Value.int .u32 0)).setCell ⟨ob,2,none⟩ (Value.int .u32 0)).setCell ⟨ob,3,none⟩ (Value.slice none 0 0)).setCell ⟨ob,4,none⟩ (Value.slice none 0 0)).heap[fb]?=some (.cells #[u0,u1] 32 (0,0)):=(Below.heap_setCell _ _ _ _ hne').trans ((Below.heap_setCell _ _ _ _ hne').trans ((Below.heap_setCell _ _ _ _ hne').trans ((Below.heap_setCell _ _ _ _ hne').trans ((Below.heap_setCell _ _ _ _ hne').trans HF.out))))
    generalize (((((w.setCell ⟨ob,0,none⟩ (Value.slice none 0 0)).setCell ⟨ob,1,none⟩ (Value.int .u32 0)).setCell ⟨ob,2,none⟩ (Value.int .u32 0)).setCell ⟨ob,3,none⟩ (Value.slice none 0 0)).setCell ⟨ob,4,none⟩ (Value.slice none 0 0))=W5 at hob hfb hon ⊢
    refine ⟨rfl,_,rfl,.tuple #[],by simp [results,Tryz.results15],rfl,rfl,?_,?_,?_⟩
    · exact (Below.heap_setCell _ _ _ _ hne).trans ((Below.heap_setCell _ _ _ _ hne).trans hob)
    · exact heap_setCell_at (heap_setCell_at hfb _) _
    · exact ((hon.setCell (p:=⟨fb,0,none⟩) (Or.inr rfl) _).setCell (p:=⟨fb,1,none⟩) (Or.inr rfl) _).drew
end Go.Proofs.YtchaoonefiamdaaGreatDoor
namespace Go.Proofs.YtchaoonefiamdaaGreatDoor
open Go.RowKit Go.Maps
set_option linter.unusedVariables false
set_option linter.unusedSimpArgs false
theorem nm_len {ts ts':List Rl.Tk} {t:Rl.Tk} (h:Rl.name ts=.ok (t,ts')):ts'.length < ts.length:=by
  cases ts with
  | nil=>cases h
  | cons t0 ts0 =>
    rw [name_cons] at h
    split at h
    · cases h
    · split at h
      · cases h;simp
      · cases h
theorem fresh_len {E:Rl.Env} {ts ts':List Rl.Tk} {t:Rl.Tk} (h:Rl.fresh E ts=.ok (t,ts')):ts'.length < ts.length:=nm_len (fresh_none h).1
theorem placeOf_len {C:List Rl.Str} {ts ts':List Rl.Tk} {k:Nat} (h:Rl.placeOf C ts=.ok (k,ts')):ts'.length < ts.length:=by
  unfold Rl.placeOf at h
  split at h
  · cases h
  · rename_i hn
    split at h
    · cases h
    · cases h;exact nm_len hn
theorem classes_len:∀ (ts:List Rl.Tk) (s:Rl.St) {ts':List Rl.Tk} {s':Rl.St},Rl.classes ts s=.ok (ts',s')→ts'.length≤ts.length∧s'.env.length+ts'.length≤s.env.length+ts.length
  | [],s,_,_,h=>by cases h
  | t :: ts,s,ts',s',h=>by
    rw [classes_cons] at h
    split at h
    · cases h
    · split at h
      · split at h
        · cases h
        · split at h
          · cases h
          · have ih:=classes_len ts _ h
            unfold Rl.addClass at ih
            simp only [List.length_append,List.length_cons,List.length_nil] at ih ⊢
            omega
      · cases h;simp
theorem line_len {t:Rl.Tk} {ts ts':List Rl.Tk} {s s':Rl.St} (h:Rl.line t ts s=.ok (ts',s')) (hp:s.places≤200):ts'.length≤ts.length∧s'.env.length+ts'.length≤s.env.length+ts.length:=by
  have hrule:∀ d,Rl.rule' d t.at' ts s=.ok (ts',s')→ts'.length≤ts.length∧s'.env.length+ts'.length≤s.env.length+ts.length:=by
    intro d h
    unfold Rl.rule' at h
    split at h
    · cases h
    · split at h
      · cases h
      · rename_i h1
        split at h
        · cases h
        · rename_i h2
          split at h
          · cases h
          · rename_i h3
            cases h
            have a1:=(Rl.expr_len s.env s.cls.length _).1 _ _ _ _ _ _ h1 hp
            have a2:=Rl.want_len h2
            have a3:=(Rl.expr_len s.env s.cls.length _).1 _ _ _ _ _ _ h3 a1.2
            simp only
            omega
  unfold Rl.line at h
  split at h
  · exact classes_len ts s h
  · split at h
    · unfold Rl.set' at h
      split at h
      · cases h
      · rename_i h1
        split at h
        · cases h
        · rename_i h2
          split at h
          · cases h
          · rename_i h3
            cases h
            have a1:=fresh_len h1
            have a2:=Rl.want_len h2
            have a3:=Rl.names_len h3
            simp only [List.length_append,List.length_cons,List.length_nil]
            omega
    · split at h
      · unfold Rl.join' at h
        split at h
        · cases h
        · rename_i h1
          split at h
          · cases h
          · rename_i h2
            split at h
            · cases h
            · rename_i h3
              cases h
              have a1:=Rl.names_len h1
              have a2:=Rl.want_len h2
              have a3:=Rl.names_len h3
              simp only
              omega
      · split at h
        · unfold Rl.treat' at h
          split at h
          · cases h
          · rename_i h1
            split at h
            · cases h
            · rename_i h2
              split at h
              · cases h
              · rename_i h3
                cases h
                have a1:=placeOf_len h1
                have a2:=Rl.want_len h2
                have a3:=placeOf_len h3
                simp only
                omega
        · split at h
          · exact hrule 0 h
          · split at h
            · exact hrule 1 h
            · split at h
              · exact hrule 2 h
              · cases h
theorem has_none {s:Rl.Str} (h1:s≠Rl.wClass) (h2:s≠Rl.wSet) (h3:s≠Rl.wJoin) (h4:s≠Rl.wTreat) (h5:s≠Rl.wKeep) (h6:s≠Rl.wMay) (h7:s≠Rl.wMust):Maps.has kindsD (.string s)=false:=by
  have ne:∀ {a:Rl.Str},s≠a→(Lit.string s)≠(Lit.string a):=fun h e=>h (by injection e)
  unfold kindsD
  rw [has_put_other (ne h7),has_put_other (ne h6),has_put_other (ne h5),has_put_other (ne h4),has_put_other (ne h3),has_put_other (ne h2),has_put_other (ne h1)]
  rfl
end Go.Proofs.YtchaoonefiamdaaGreatDoor
