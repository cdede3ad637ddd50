/- Sts0 Sts1 -/
import Derived.Test.YtchaoonefiamdaaGreatDoorZ17
import Derived.OwnWalk
namespace Go.Proofs.YtchaoonefiamdaaGreatDoor
open Go.RowKit Go.Maps
set_option linter.unusedVariables false
set_option linter.unusedSimpArgs false
def KDs (D:DataW Unit) (B:List Nat):Prop:=∀ S,S < 2 ^ 256→D.atKey (kc Tryz.prog S) (.lit (.int .i64 0))=.lit (.int .i64 (if S∈B then (B.idxOf S:Int) else 0))∧Maps.has D (kc Tryz.prog S)=decide (S∈B)
set_option maxRecDepth 100000 in
theorem kds_put {D:DataW Unit} {B:List Nat} {S:Nat} (hm:IsMap D) (h:KDs D B) (hS:S < 2 ^ 256) (hn:S ∉ B):KDs (D.put (kc Tryz.prog S) (.lit (.int .i64 (B.length:Int)))) (B++[S]):=by
  intro T hT
  have hk:WideAt.IsKeyLit (kc Tryz.prog S):=law73.key (kc_key S)
  by_cases e:T=S
  · subst e
    refine ⟨?_,?_⟩
    · rw [atKey_put_same hm hk,if_pos (by simp),List.idxOf_append,if_neg hn]
      simp
    · rw [has_put_same hm hk]
      simp
  · have hne:kc Tryz.prog T≠kc Tryz.prog S:=fun h'=>e (kc_inj hT hS h')
    refine ⟨?_,?_⟩
    · rw [atKey_put_other hne,(h T hT).1]
      by_cases hB:T∈B
      · rw [if_pos hB,if_pos (by simp [hB]),List.idxOf_append,if_pos hB]
      · rw [if_neg hB,if_neg (by simp [hB,e])]
    · rw [has_put_other hne,(h T hT).2]
      simp [e]
theorem wpList_insert_own {H:Type} {P:Program} (w:World) {ops:Array Oper} {rest:List Oper} {o:Oper} {a:Act} {Q:Exit→Act→World→Prop}
    (hg:o.guard=none) (m x v:Operand) (t:TypeId) (hop:o.op=Op.insert t m x v)
    (k e:TypeId) (K:Keyed P k) (ht:P.underlying t=some (.map k e)) (R:Value→Option (DataW H × List MemPlace)) (b n:Nat) (D:DataW H)
    (hm:a.eval m=.map (some b)) (hown:w.ownsMap P k R b n D) (hn:n < maxLen) (key val:Value) (kl:Lit) (hx:a.eval x=key) (hv:a.eval v=val) (hkey:keyOf P k key=some kl)
    (d:DataW H) (ps:List MemPlace) (hval:R val=some (d,ps))
    (hK:∀ w',w'.ownsMap P k R b (n+1) (D.put kl d)→w.grownBy w' (some b)→wpList P ops Q rest (a.put o.dst undef) w') :
    wpList P ops Q (o :: rest) a w:=by
  refine wpList_plain hg fun K' hK'=>?_
  obtain ⟨w',hrun,r1,r2⟩:=hown.update K ht hn hkey hval
  unfold Oper.wp
  simp [execOp,hop,hm,hx,hv,hrun,Result.andThen]
  exact hK' _ _ (hK w' r1 r2)
def wcs (L:List Nat) (cl:Nat):Array Value:=Array.ofFn (n:=cl) fun j=>.int .i64 ((L[j.val]?.getD 0:Nat):Int)
theorem wcs_size (L:List Nat) (cl:Nat):(wcs L cl).size=cl:=by simp [wcs]
theorem wcs_at (L:List Nat) (cl j:Nat) (h:j < cl):(wcs L cl)[j]?=some (.int .i64 ((L[j]?.getD 0:Nat):Int)):=by
  rw [Array.getElem?_eq_getElem (by rw [wcs_size];exact h)]
  simp [wcs]
theorem wcs_set (L:List Nat) (cl t:Nat) (h:L.length < cl):(wcs L cl).setIfInBounds L.length (.int .i64 (t:Int))=wcs (L++[t]) cl:=by
  apply Array.ext_getElem?
  intro j
  rw [Array.getElem?_setIfInBounds,wcs_size]
  by_cases hj:j < cl
  · rw [wcs_at _ _ _ hj,wcs_at _ _ _ hj]
    by_cases e:L.length=j
    · subst e
      rw [if_pos rfl,if_pos hj]
      simp
    · rw [if_neg e]
      by_cases h1:j < L.length
      · rw [List.getElem?_append_left h1]
      · rw [List.getElem?_eq_none (by omega),List.getElem?_eq_none (by simp;omega)]
  · rw [if_neg (by omega),Array.getElem?_eq_none (by rw [wcs_size];omega),Array.getElem?_eq_none (by rw [wcs_size];omega)]
theorem made_wcs {w:World} {base g cl:Nat} (h:w.ownsRow base 3 1 (.slice (some ⟨g,0,none⟩) cl cl) cl (madeCells (Value.int .i64 0).cells (cl*1)).toList):base≤g∧w.heap[g]?=some (.cells (wcs [] cl) 3 (0,0)):=by
  obtain ⟨_,⟨hv,_⟩ | ⟨g',cap,cur,hv,h1,h2,h3,h4,h5,h6⟩⟩:=h
  · cases hv
  · injection hv with e1 e2 e3
    injection e1 with e1
    injection e1 with e1
    subst e1 e3
    refine ⟨h1,?_⟩
    rw [h2]
    congr 2
    rw [List.take_of_length_le (by rw [Array.length_toList];omega)] at h6
    apply Array.ext_getElem?
    intro j
    have e:cur[j]?=(madeCells (Value.int .i64 0).cells (cl*1))[j]?:=by rw [← Array.getElem?_toList,h6,Array.getElem?_toList]
    rw [e,Nat.mul_one]
    by_cases hj:j < cl
    · rw [wcs_at _ _ _ hj]
      unfold madeCells
      rw [Array.getElem?_map,Array.getElem?_range,if_pos hj]
      show some ((Value.int .i64 0).cells[j % (Value.int .i64 0).cells.size]!)=_
      have e1:(Value.int .i64 0).cells.size=1:=rfl
      rw [e1,Nat.mod_one]
      rfl
    · rw [Array.getElem?_eq_none (by rw [size_madeCells];omega),Array.getElem?_eq_none (by rw [wcs_size];omega)]
def rowV (cl:Nat) (r:Nat × List Nat):Value:=.slice (some ⟨r.1,0,none⟩) cl cl
def u32V (n:Nat):Value:=.int .u32 (n:Int)
def RowsOk (W:World) (lo cl:Nat) (rows:List (Nat × List Nat)):Prop:=∀ r∈rows,lo≤r.1∧W.heap[r.1]?=some (.cells (wcs r.2 cl) 3 (0,0))∧r.2.length=cl
structure Ost (w W:World) (g cl:Nat) (p:Au.Pl) (fs:Nat) (vL:Value) (em:Nat) (Ls found:List Nat) (fv:Value) (rows:List (Nat × List Nat)) (o:List Nat) (vN vO:Value):Prop where
  pl:Plm W g cl p fs vL em
  gl:g < w.heap.size
  lw:Lw W (fun b=>b < w.heap.size) vL Ls
  mp:∃ D:DataW Unit,W.ownsMap Tryz.prog 95 (plainElem Tryz.prog 3) (w.heap.size+1+1) found.length D∧KDs D found
  fd:W.ownsRow (w.heap.size+1+1+1) 95 4 fv found.length (flS found)
  rb:W.heap[w.heap.size]?=some (.cells #[.slice none 0 0,.slice none 0 0] 63 (0,0))
  ab:W.heap[w.heap.size+1]?=some (.cells #[vN,vO] 63 (0,0))
  nx:W.ownsRow (w.heap.size+1+1+1) 23 1 vN rows.length (rows.map (rowV cl))
  ot:W.ownsRow (w.heap.size+1+1+1) 42 1 vO o.length (o.map u32V)
  ro:RowsOk W (w.heap.size+1+1+1) cl rows
  on:Only (fun h=>w.heap.size≤h) w W
theorem ownsMap_only {W W':World} {k:TypeId} {R:Value→Option (DataW Unit × List MemPlace)} {b n:Nat} {D:DataW Unit} {P:Nat→Prop} (h:W.ownsMap Tryz.prog k R b n D) (ho:Only P W W') (hn:¬ P b):W'.ownsMap Tryz.prog k R b n D:=by
  unfold World.ownsMap at h ⊢
  obtain ⟨es,c,h1,h2⟩:=h
  exact ⟨es,c,(ho.block b (Array.getElem?_eq_some_iff.1 h1).1 hn).trans h1,h2⟩
theorem own_ne {W:World} {base e size n:Nat} {v:Value} {xs:List Value} (h:W.ownsRow base e size v n xs) {q:Nat} {cs:Array Value} {t:TypeId} {z:Nat × Nat} (hq:W.heap[q]?=some (.cells cs t z)) (ht:t≠e):v.ownBlock≠some q:=fun hv=>own_notag h t ht q hv cs z hq
theorem own_keep {W W':World} {base e size n:Nat} {v:Value} {xs:List Value} {P:Nat→Prop} (h:W.ownsRow base e size v n xs) (ho:Only P W W') (hP:∀ q,v.ownBlock=some q→¬ P q):W'.ownsRow base e size v n xs:=by
  obtain ⟨hl,h | ⟨g,cap,cur,hv,hb,hh,h1,h2,h3,h4⟩⟩:=h
  · exact ⟨hl,Or.inl h⟩
  · refine ⟨hl,Or.inr ⟨g,cap,cur,hv,hb,?_,h1,h2,h3,h4⟩⟩
    rw [ho.block g (Array.getElem?_eq_some_iff.1 hh).1 (hP g (by rw [hv];rfl))]
    exact hh
theorem Ost.keep {w W W':World} {g cl:Nat} {p:Au.Pl} {fs:Nat} {vL:Value} {em:Nat} {Ls found:List Nat} {fv:Value} {rows:List (Nat × List Nat)} {o:List Nat} {vN vO:Value} (h:Ost w W g cl p fs vL em Ls found fv rows o vN vO) {P:Nat→Prop} (ho:Only P W W')
    (h1:∀ b,P b→w.heap.size+1+1+1≤b) (h2:∀ q,fv.ownBlock=some q→¬ P q) (h3:∀ q,vN.ownBlock=some q→¬ P q) (h4:∀ q,vO.ownBlock=some q→¬ P q) (h5:∀ r∈rows,¬ P r.1):Ost w W' g cl p fs vL em Ls found fv rows o vN vO:=by
  obtain ⟨a1,a2,a3,⟨D,a4,a5⟩,a6,a7,a8,a9,a10,a11,a12⟩:=h
  have hlow:∀ b,b < w.heap.size+1+1+1→¬ P b:=fun b hb hp=>by have:=h1 b hp;omega
  refine ⟨a1.only ho (hlow _ (by omega)),a2,a3.only ho (fun b hb=>hlow b (by omega)),⟨D,ownsMap_only a4 ho (hlow _ (by omega)),a5⟩,own_keep a6 ho h2,?_,?_,own_keep a9 ho h3,own_keep a10 ho h4,?_,a12.trans (ho.mono (fun b hb=>by have:=h1 b hb;omega))⟩
  · exact (ho.block _ (Array.getElem?_eq_some_iff.1 a7).1 (hlow _ (by omega))).trans a7
  · exact (ho.block _ (Array.getElem?_eq_some_iff.1 a8).1 (hlow _ (by omega))).trans a8
  · intro r hr
    obtain ⟨b1,b2,b3⟩:=a11 r hr
    exact ⟨b1,(ho.block _ (Array.getElem?_eq_some_iff.1 b2).1 (h5 r hr)).trans b2,b3⟩
theorem Ost.only0 {w W W':World} {g cl:Nat} {p:Au.Pl} {fs:Nat} {vL:Value} {em:Nat} {Ls found:List Nat} {fv:Value} {rows:List (Nat × List Nat)} {o:List Nat} {vN vO:Value} (h:Ost w W g cl p fs vL em Ls found fv rows o vN vO) (ho:Only (fun _=>False) W W'):Ost w W' g cl p fs vL em Ls found fv rows o vN vO :=
  h.keep ho (fun _ h=>h.elim) (fun _ _ h=>h) (fun _ _ h=>h) (fun _ _ h=>h) (fun _ _ h=>h)
theorem Ost.ways {w W W':World} {g cl:Nat} {p:Au.Pl} {fs:Nat} {vL:Value} {em:Nat} {Ls found:List Nat} {fv:Value} {rows:List (Nat × List Nat)} {o:List Nat} {vN vO:Value} (h:Ost w W g cl p fs vL em Ls found fv rows o vN vO) {q:Nat} {cs:Array Value} {t:TypeId} (hq:W.heap[q]?=some (.cells cs t (0,0))) (ht1:t≠95) (ht2:t≠23) (ht3:t≠42) (hr:∀ r∈rows,r.1≠q) (hlo:w.heap.size+1+1+1≤q) (ho:Only (·=q) W W'):Ost w W' g cl p fs vL em Ls found fv rows o vN vO :=
  h.keep ho (fun b hb=>by omega) (fun b hb e=>own_ne h.fd hq ht1 (by rw [hb,e])) (fun b hb e=>own_ne h.nx hq ht2 (by rw [hb,e])) (fun b hb e=>own_ne h.ot hq ht3 (by rw [hb,e])) (fun r hrr e=>hr r hrr e)
theorem Ost.more {w W W1 W2:World} {g cl:Nat} {p:Au.Pl} {fs:Nat} {vL:Value} {em:Nat} {Ls found:List Nat} {fv fv':Value} {rows:List (Nat × List Nat)} {o:List Nat} {vN vO:Value} (h:Ost w W g cl p fs vL em Ls found fv rows o vN vO) {S:Nat} (hS:S < 2 ^ 256) (hn:S ∉ found) {D:DataW Unit}
    (hK:KDs D found) (hI:IsMap D) (hm:W1.ownsMap Tryz.prog 95 (plainElem Tryz.prog 3) (w.heap.size+1+1) (found.length+1) (D.put (kc Tryz.prog S) (.lit (.int .i64 (found.length:Int))))) (ho1:Only (·=w.heap.size+1+1) W W1)
    (hf:W2.ownsRow (w.heap.size+1+1+1) 95 4 fv' (found.length+1) (flS found++(sC S).toList)) (ho2:Only (fun q=>fv.ownBlock=some q) W1 W2):Ost w W2 g cl p fs vL em Ls (found++[S]) fv' rows o vN vO:=by
  obtain ⟨a1,a2,a3,_,a6,a7,a8,a9,a10,a11,a12⟩:=h
  have hfl:∀ q,fv.ownBlock=some q→w.heap.size+1+1+1≤q:=fun q hq=>(a6.lt q hq).1
  have hlow:∀ b,b < w.heap.size+1+1+1→¬ fv.ownBlock=some b:=fun b hb hp=>by have:=hfl b hp;omega
  have el:(found++[S]).length=found.length+1:=by simp
  have hO:Only (fun q=>q=w.heap.size+1+1∨fv.ownBlock=some q) W W2:=(ho1.mono (fun _ h=>Or.inl h)).trans (ho2.mono (fun _ h=>Or.inr h))
  refine ⟨a1.only hO ?_,a2,a3.only hO ?_,⟨_,ownsMap_only (by rw [el];exact hm) ho2 (hlow _ (by omega)),kds_put hI hK hS hn⟩,by rw [el,flS_snoc];exact hf,?_,?_,own_keep a9 hO ?_,own_keep a10 hO ?_,?_,a12.trans (hO.mono ?_)⟩
  · intro e;rcases e with e | e
    · omega
    · exact hlow g (by omega) e
  · intro b hb e;rcases e with e | e
    · omega
    · exact hlow b (by omega) e
  · refine (hO.block _ (Array.getElem?_eq_some_iff.1 a7).1 ?_).trans a7
    intro e;rcases e with e | e
    · omega
    · exact hlow _ (by omega) e
  · refine (hO.block _ (Array.getElem?_eq_some_iff.1 a8).1 ?_).trans a8
    intro e;rcases e with e | e
    · omega
    · exact hlow _ (by omega) e
  · intro q hq e
    rcases e with e | e
    · have:=(a9.lt q hq).1;omega
    · obtain ⟨_,⟨hv,_⟩ | ⟨g',cap,cur,hv,_,hh,_⟩⟩:=a9
      · rw [hv] at hq;cases hq
      · rw [hv] at hq
        injection hq with hq
        simp only at hq
        subst hq
        exact own_ne a6 hh (by decide) e
  · intro q hq e
    rcases e with e | e
    · have:=(a10.lt q hq).1;omega
    · obtain ⟨_,⟨hv,_⟩ | ⟨g',cap,cur,hv,_,hh,_⟩⟩:=a10
      · rw [hv] at hq;cases hq
      · rw [hv] at hq
        injection hq with hq
        simp only at hq
        subst hq
        exact own_ne a6 hh (by decide) e
  · intro r hr
    obtain ⟨b1,b2,b3⟩:=a11 r hr
    refine ⟨b1,(hO.block _ (Array.getElem?_eq_some_iff.1 b2).1 ?_).trans b2,b3⟩
    intro e;rcases e with e | e
    · omega
    · exact own_ne a6 b2 (by decide) e
  · intro b hb
    rcases hb with e | e
    · omega
    · have:=hfl b e;omega
end Go.Proofs.YtchaoonefiamdaaGreatDoor
namespace Go.Proofs.YtchaoonefiamdaaGreatDoor
open Go.RowKit Go.Maps
set_option linter.unusedVariables false
set_option linter.unusedSimpArgs false
theorem Ost.next {w W W2:World} {g cl:Nat} {p:Au.Pl} {fs:Nat} {vL:Value} {em:Nat} {Ls found:List Nat} {fv v':Value} {rows:List (Nat × List Nat)} {o:List Nat} {vN vO:Value} (h:Ost w W g cl p fs vL em Ls found fv rows o vN vO) {r:Nat × List Nat} (hr:w.heap.size+1+1+1≤r.1∧W.heap[r.1]?=some (.cells (wcs r.2 cl) 3 (0,0))∧r.2.length=cl)
    (hf:W2.ownsRow (w.heap.size+1+1+1) 23 1 v' (rows.length+1) (rows.map (rowV cl)++[rowV cl r])) (ho2:Only (fun q=>vN.ownBlock=some q) W W2):Ost w (W2.setCell ⟨w.heap.size+1,0,none⟩ v') g cl p fs vL em Ls found fv (rows++[r]) o v' vO:=by
  obtain ⟨a1,a2,a3,⟨D,a4,a5⟩,a6,a7,a8,a9,a10,a11,a12⟩:=h
  have hfl:∀ q,vN.ownBlock=some q→w.heap.size+1+1+1≤q:=fun q hq=>(a9.lt q hq).1
  have hlow:∀ b,b < w.heap.size+1+1+1→¬ vN.ownBlock=some b:=fun b hb hp=>by have:=hfl b hp;omega
  have hS:Only (·=w.heap.size+1) W2 (W2.setCell ⟨w.heap.size+1,0,none⟩ v'):=Only.setCell (S:=(·=w.heap.size+1)) (Only.refl _ _) (p:=⟨w.heap.size+1,0,none⟩) rfl v'
  have hO:Only (fun q=>q=w.heap.size+1∨vN.ownBlock=some q) W (W2.setCell ⟨w.heap.size+1,0,none⟩ v'):=(ho2.mono (fun _ h=>Or.inr h)).trans (hS.mono (fun _ h=>Or.inl h))
  have hn:∀ b,b < w.heap.size+1+1+1→b≠w.heap.size+1→¬ (b=w.heap.size+1∨vN.ownBlock=some b):=fun b hb hne e=>e.elim hne (hlow b hb)
  refine ⟨a1.only hO (hn _ (by omega) (by omega)),a2,a3.only hO (fun b hb=>hn b (by omega) (by omega)),⟨D,ownsMap_only a4 hO (hn _ (by omega) (by omega)),a5⟩,own_keep a6 hO ?_,?_,?_,?_,?_,?_,a12.trans (hO.mono ?_)⟩
  · have H:∀ q,fv.ownBlock=some q→¬ vN.ownBlock=some q:=by
      intro q hq e
      obtain ⟨_,⟨hv,_⟩ | ⟨g',cap,cur,hv,_,hh,_⟩⟩:=a6
      · rw [hv] at hq;cases hq
      · rw [hv] at hq
        injection hq with hq
        simp only at hq
        subst hq
        exact own_ne a9 hh (by decide) e
    intro q hq e
    rcases e with e | e
    · have:=(a6.lt q hq).1;omega
    · exact H q hq e
  · exact (hO.block _ (Array.getElem?_eq_some_iff.1 a7).1 (hn _ (by omega) (by omega))).trans a7
  · exact heap_setCell_at ((ho2.block _ (Array.getElem?_eq_some_iff.1 a8).1 (hlow _ (by omega))).trans a8) v'
  · have e:(rows++[r]).length=rows.length+1:=by simp
    rw [e,List.map_append]
    exact own_keep hf hS (fun q hq e=>by have:=(hf.lt q hq).1;omega)
  · have H:∀ q,vO.ownBlock=some q→¬ vN.ownBlock=some q:=by
      intro q hq e
      obtain ⟨_,⟨hv,_⟩ | ⟨g',cap,cur,hv,_,hh,_⟩⟩:=a10
      · rw [hv] at hq;cases hq
      · rw [hv] at hq
        injection hq with hq
        simp only at hq
        subst hq
        exact own_ne a9 hh (by decide) e
    refine own_keep a10 hO ?_
    intro q hq e
    rcases e with e | e
    · have:=(a10.lt q hq).1;omega
    · exact H q hq e
  · intro r' hr'
    have hX:w.heap.size+1+1+1≤r'.1∧W.heap[r'.1]?=some (.cells (wcs r'.2 cl) 3 (0,0))∧r'.2.length=cl:=by
      rcases List.mem_append.1 hr' with h1 | h1
      · exact a11 r' h1
      · simp at h1
        subst h1
        exact hr
    obtain ⟨b1,b2,b3⟩:=hX
    refine ⟨b1,(hO.block _ (Array.getElem?_eq_some_iff.1 b2).1 ?_).trans b2,b3⟩
    intro e;rcases e with e | e
    · omega
    · exact own_ne a9 b2 (by decide) e
  · intro b hb
    rcases hb with e | e
    · omega
    · have:=hfl b e;omega
theorem Ost.tell {w W W2:World} {g cl:Nat} {p:Au.Pl} {fs:Nat} {vL:Value} {em:Nat} {Ls found:List Nat} {fv v':Value} {rows:List (Nat × List Nat)} {o:List Nat} {vN vO:Value} (h:Ost w W g cl p fs vL em Ls found fv rows o vN vO) {x:Nat}
    (hf:W2.ownsRow (w.heap.size+1+1+1) 42 1 v' (o.length+1) (o.map u32V++[u32V x])) (ho2:Only (fun q=>vO.ownBlock=some q) W W2):Ost w (W2.setCell ⟨w.heap.size+1,1,none⟩ v') g cl p fs vL em Ls found fv rows (o++[x]) vN v':=by
  obtain ⟨a1,a2,a3,⟨D,a4,a5⟩,a6,a7,a8,a9,a10,a11,a12⟩:=h
  have hfl:∀ q,vO.ownBlock=some q→w.heap.size+1+1+1≤q:=fun q hq=>(a10.lt q hq).1
  have hlow:∀ b,b < w.heap.size+1+1+1→¬ vO.ownBlock=some b:=fun b hb hp=>by have:=hfl b hp;omega
  have hS:Only (·=w.heap.size+1) W2 (W2.setCell ⟨w.heap.size+1,1,none⟩ v'):=Only.setCell (S:=(·=w.heap.size+1)) (Only.refl _ _) (p:=⟨w.heap.size+1,1,none⟩) rfl v'
  have hO:Only (fun q=>q=w.heap.size+1∨vO.ownBlock=some q) W (W2.setCell ⟨w.heap.size+1,1,none⟩ v'):=(ho2.mono (fun _ h=>Or.inr h)).trans (hS.mono (fun _ h=>Or.inl h))
  have hn:∀ b,b < w.heap.size+1+1+1→b≠w.heap.size+1→¬ (b=w.heap.size+1∨vO.ownBlock=some b):=fun b hb hne e=>e.elim hne (hlow b hb)
  refine ⟨a1.only hO (hn _ (by omega) (by omega)),a2,a3.only hO (fun b hb=>hn b (by omega) (by omega)),⟨D,ownsMap_only a4 hO (hn _ (by omega) (by omega)),a5⟩,own_keep a6 hO ?_,?_,?_,?_,?_,?_,a12.trans (hO.mono ?_)⟩
  · have H:∀ q,fv.ownBlock=some q→¬ vO.ownBlock=some q:=by
      intro q hq e
      obtain ⟨_,⟨hv,_⟩ | ⟨g',cap,cur,hv,_,hh,_⟩⟩:=a6
      · rw [hv] at hq;cases hq
      · rw [hv] at hq
        injection hq with hq
        simp only at hq
        subst hq
        exact own_ne a10 hh (by decide) e
    intro q hq e
    rcases e with e | e
    · have:=(a6.lt q hq).1;omega
    · exact H q hq e
  · exact (hO.block _ (Array.getElem?_eq_some_iff.1 a7).1 (hn _ (by omega) (by omega))).trans a7
  · exact heap_setCell_at ((ho2.block _ (Array.getElem?_eq_some_iff.1 a8).1 (hlow _ (by omega))).trans a8) v'
  · have H:∀ q,vN.ownBlock=some q→¬ vO.ownBlock=some q:=by
      intro q hq e
      obtain ⟨_,⟨hv,_⟩ | ⟨g',cap,cur,hv,_,hh,_⟩⟩:=a9
      · rw [hv] at hq;cases hq
      · rw [hv] at hq
        injection hq with hq
        simp only at hq
        subst hq
        exact own_ne a10 hh (by decide) e
    refine own_keep a9 hO ?_
    intro q hq e
    rcases e with e | e
    · have:=(a9.lt q hq).1;omega
    · exact H q hq e
  · have e:(o++[x]).length=o.length+1:=by simp
    rw [e,List.map_append]
    exact own_keep hf hS (fun q hq e=>by have:=(hf.lt q hq).1;omega)
  · intro r' hr'
    obtain ⟨b1,b2,b3⟩:=a11 r' hr'
    refine ⟨b1,(hO.block _ (Array.getElem?_eq_some_iff.1 b2).1 ?_).trans b2,b3⟩
    intro e;rcases e with e | e
    · omega
    · exact own_ne a10 b2 (by decide) e
  · intro b hb
    rcases hb with e | e
    · omega
    · have:=hfl b e;omega
theorem fold_bit (P:Nat→Prop) [DecidablePred P] (m0 r:Nat):∀ k,((List.range k).foldl (fun m i=>if P i then m ||| 2 ^ i else m) m0).testBit r=(m0.testBit r || (decide (r < k) && decide (P r)))
  | 0=>by simp
  | k+1=>by
    rw [List.range_succ,List.foldl_append]
    simp only [List.foldl_cons,List.foldl_nil]
    by_cases hP:P k
    · rw [if_pos hP,Nat.testBit_or,fold_bit P m0 r k,Nat.testBit_two_pow]
      by_cases e:k=r
      · subst e
        simp [hP]
      · have:(decide (r < k+1))=decide (r < k):=by simp;omega
        rw [this]
        simp [e]
    · rw [if_neg hP,fold_bit P m0 r k]
      by_cases e:k=r
      · subst e
        simp [hP]
      · have:(decide (r < k+1))=decide (r < k):=by simp;omega
        rw [this]
def emK (l:List Au.Nd):Nat:=(List.range l.length).foldl (fun m i=>if (l[i]?.map (·.none)).getD false=true then m ||| 2 ^ i else m) 0
theorem out_eq (l:List Au.Nd) (S:Nat):outK (l.map (·.last)) S (emK l) l.length=Au.out l S:=by
  apply Nat.eq_of_testBit_eq
  intro r
  have h1:outK (l.map (·.last)) S (emK l) l.length=(List.range l.length).foldl (fun m i=>if S &&& ((l.map (·.last))[i]?.getD 0)≠0 then m ||| 2 ^ i else m) (emK l):=rfl
  have h2:Au.out l S=(List.range l.length).foldl (fun m i=>if (∃ x,l[i]?=some x∧(x.none=true∨S &&& x.last≠0)) then m ||| 2 ^ i else m) 0:=by
    unfold Au.out
    congr 1
    funext m i
    cases h:l[i]? with
    | none=>simp
    | some x=>simp
  rw [h1,fold_bit,h2,fold_bit,emK,fold_bit]
  by_cases hr:r < l.length
  · have hl:l[r]?=some l[r]:=List.getElem?_eq_getElem hr
    simp only [hl,List.getElem?_map,Option.map_some,Option.getD_some,hr,decide_true,Bool.true_and,Nat.zero_testBit,Bool.false_or]
    cases hx:l[r].none <;> simp [hx]
  · simp [hr]
theorem emK_lt (l:List Au.Nd) (h:l.length≤24):emK l < 2 ^ 24:=by
  apply Nat.lt_pow_two_of_testBit
  intro i hi
  rw [emK,fold_bit]
  simp
  omega
theorem emK_snoc (l:List Au.Nd) (x:Au.Nd):emK (l++[x])=if x.none=true then emK l ||| 2 ^ l.length else emK l:=by
  apply Nat.eq_of_testBit_eq
  intro r
  rw [emK,fold_bit]
  have hE:(emK l).testBit r=(decide (r < l.length) && decide ((l[r]?.map (·.none)).getD false=true)):=by rw [emK,fold_bit];simp
  by_cases hr:r < l.length
  · have e2:¬ l.length=r:=by omega
    rw [List.getElem?_append_left hr]
    split
    · rw [Nat.testBit_or,hE,Nat.testBit_two_pow]
      simp [hr,e2]
      omega
    · rw [hE]
      simp [hr]
      omega
  · by_cases e:l.length=r
    · subst e
      split
      · rename_i hx
        rw [Nat.testBit_or,hE,Nat.testBit_two_pow]
        simp [hx]
      · rename_i hx
        rw [hE]
        simp [hx]
    · split
      · rw [Nat.testBit_or,hE,Nat.testBit_two_pow]
        simp [hr,e]
        omega
      · rw [hE]
        simp [hr]
        omega
end Go.Proofs.YtchaoonefiamdaaGreatDoor
