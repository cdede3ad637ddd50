/- LHm LBs LSw -/
import Derived.Test.YtchaoonefiamdaaGreatDoorProg
import Derived.WalkKit
import Derived.WalkSpells
import Derived.WalkLawsBesides
import Derived.OwnWalk
import Derived.Maps.AppendAt
import Derived.Deep.LoopGhost
import Derived.Deep.AppendLies
import Derived.BigRegion
import Derived.BigQuiet
import Derived.Deep.MidRow
import Derived.Below
import Derived.Deep.RegionHeld3
import Derived.Deep.CutRange
namespace Go.Proofs.YtchaoonefiamdaaGreatDoor.L
set_option linter.unusedVariables false
set_option linter.unusedSimpArgs false
namespace Hm
def Eqx (k:Nat) (d:Nat→Nat→Nat) (o:Nat→Nat) (d':Nat→Nat→Nat) (o':Nat→Nat) (s t:Nat):Prop:=∀ w:List Nat,(∀ c∈w,c < k)→o (w.foldl d s)=o' (w.foldl d' t)
abbrev Eqv (k:Nat) (d:Nat→Nat→Nat) (o:Nat→Nat) (s t:Nat):Prop:=Eqx k d o d o s t
theorem Eqx.out {k:Nat} {d d':Nat→Nat→Nat} {o o':Nat→Nat} {s t:Nat} (h:Eqx k d o d' o' s t):o s=o' t:=h [] (by simp)
theorem Eqx.step {k:Nat} {d d':Nat→Nat→Nat} {o o':Nat→Nat} {s t c:Nat} (h:Eqx k d o d' o' s t) (hc:c < k):Eqx k d o d' o' (d s c) (d' t c):=fun w hw=>h (c :: w) (fun x hx=>by rcases List.mem_cons.1 hx with rfl | hx;exact hc;exact hw x hx)
theorem Eqx.symm {k:Nat} {d d':Nat→Nat→Nat} {o o':Nat→Nat} {s t:Nat} (h:Eqx k d o d' o' s t):Eqx k d' o' d o t s:=fun w hw=>(h w hw).symm
theorem Eqx.trans {k:Nat} {d d' d2:Nat→Nat→Nat} {o o' o2:Nat→Nat} {s t u:Nat} (h:Eqx k d o d' o' s t) (g:Eqx k d' o' d2 o2 t u):Eqx k d o d2 o2 s u:=fun w hw=>(h w hw).trans (g w hw)
theorem Eqx.refl {k:Nat} {d:Nat→Nat→Nat} {o:Nat→Nat} (s:Nat):Eqv k d o s s:=fun w hw=>rfl
def Stab (n k:Nat) (d:Nat→Nat→Nat) (g:Nat→Nat) (T:Nat→Prop):Prop:=∀ s t c,s < n→t < n→c < k→g s=g t→(T (g (d s c))↔T (g (d t c)))
structure Split (n:Nat) (g:Nat→Nat) (K:Nat) (D:Nat→Prop) (g':Nat→Nat) (K':Nat):Prop where
  le:K≤K'
  lt:∀ s,s < n→g' s < K'
  new:∀ s,s < n→g' s=g s∨K≤g' s
  iff:∀ s t,s < n→t < n→(g' s=g' t↔g s=g t∧(D s↔D t))
def Inv (n k:Nat) (d:Nat→Nat→Nat) (g:Nat→Nat) (K i:Nat):Prop:=∀ j,j < i→∃ T:Nat→Prop,T j∧(∀ t,T t→t < K→j≤t)∧Stab n k d g T
theorem Inv.split {n k:Nat} {d:Nat→Nat→Nat} {g g':Nat→Nat} {K K' i:Nat} {D:Nat→Prop} (hd:∀ s c,s < n→c < k→d s c < n) (hiK:i≤K) (h:Inv n k d g K i) (hs:Split n g K D g' K'):Inv n k d g' K' i:=fun j hj=>by
  obtain ⟨T,h1,h2,h3⟩:=h j hj
  have key:∀ x,x < n→((T (g' x)∧g' x < K∨∃ y,y < n∧g' y=g' x∧T (g y))↔T (g x)):=fun x hx=>by
    constructor
    · rintro (⟨a,b⟩ | ⟨y,hy,e,hT⟩)
      · rcases hs.new x hx with e | e
        · rw [← e];exact a
        · omega
      · rw [← ((hs.iff y x hy hx).1 e).1];exact hT
    · exact fun a=>Or.inr ⟨x,hx,rfl,a⟩
  refine ⟨fun t=>T t∧t < K∨∃ y,y < n∧g' y=t∧T (g y),Or.inl ⟨h1,by omega⟩,?_,?_⟩
  · rintro t (⟨a,b⟩ | ⟨y,hy,e,hT⟩) ht
    · exact h2 t a b
    · rcases hs.new y hy with e2 | e2
      · have hl:g y < K∨K≤g y:=by omega
        rcases hl with hl | hl
        · have:=h2 _ hT hl;omega
        · omega
      · omega
  · intro s t c hsn htn hc e
    exact ((key _ (hd s c hsn hc)).trans (h3 s t c hsn htn hc ((hs.iff s t hsn htn).1 e).1)).trans (key _ (hd t c htn hc)).symm
def Sound (n k:Nat) (d:Nat→Nat→Nat) (o g:Nat→Nat):Prop:=∀ s t,s < n→t < n→Eqv k d o s t→g s=g t
theorem Sound.split {n k:Nat} {d:Nat→Nat→Nat} {o g g':Nat→Nat} {K K':Nat} {D:Nat→Prop} (h:Sound n k d o g) (hs:Split n g K D g' K') (hD:∀ s t,s < n→t < n→Eqv k d o s t→(D s↔D t)):Sound n k d o g' :=
  fun s t a b e=>(hs.iff s t a b).2 ⟨h s t a b e,hD s t a b e⟩
theorem stab_one {n k:Nat} {d:Nat→Nat→Nat} {g:Nat→Nat} {K:Nat} (hd:∀ s c,s < n→c < k→d s c < n) (hg:∀ s,s < n→g s < K) (h:Inv n k d g K K):∀ m j,K - j≤m→j < K→∀ s t c,s < n→t < n→c < k→g s=g t→g (d s c)=j→g (d t c)=j:=by
  intro m
  induction m with
  | zero=>intro j h1 h2;omega
  | succ m ih =>
    intro j h1 h2 s t c hs ht hc e hj
    obtain ⟨T,a,b,st⟩:=h j h2
    have hT:T (g (d t c)):=(st s t c hs ht hc e).1 (by rw [hj];exact a)
    have hlt:=hg _ (hd t c ht hc)
    have hle:=b _ hT hlt
    by_cases heq:g (d t c)=j
    · exact heq
    · have:=ih (g (d t c)) (by omega) hlt t s c ht hs hc e.symm rfl
      omega
theorem done {n k:Nat} {d:Nat→Nat→Nat} {o g:Nat→Nat} {K:Nat} (hd:∀ s c,s < n→c < k→d s c < n) (hg:∀ s,s < n→g s < K) (h:Inv n k d g K K) (ho:∀ s t,s < n→t < n→g s=g t→o s=o t):∀ (w:List Nat),(∀ c∈w,c < k)→∀ s t,s < n→t < n→g s=g t→o (w.foldl d s)=o (w.foldl d t)
  | [],_,s,t,hs,ht,e=>ho s t hs ht e
  | c :: w,hw,s,t,hs,ht,e=>by
    have hc:=hw c (by simp)
    have:=stab_one hd hg h (K - g (d s c)) (g (d s c)) (by omega) (hg _ (hd s c hs hc)) s t c hs ht hc e rfl
    exact done hd hg h ho w (fun x hx=>hw x (by simp [hx])) (d s c) (d t c) (hd s c hs hc) (hd t c ht hc) this.symm
structure At (n k:Nat) (d:Nat→Nat→Nat) (g0:Nat→Nat) (K0 i:Nat) (c0:Nat) (g:Nat→Nat) (K:Nat):Prop where
  le:K0≤K
  fine:∀ s t,s < n→t < n→g s=g t→g0 s=g0 t
  new:∀ s,s < n→g s=g0 s∨K0≤g s
  by':∀ c,c < c0→∀ s t,s < n→t < n→g s=g t→(g0 (d s c)=i↔g0 (d t c)=i)
theorem At.start {n k:Nat} {d:Nat→Nat→Nat} (g0:Nat→Nat) (K0 i:Nat):At n k d g0 K0 i 0 g0 K0:=⟨Nat.le_refl _,fun _ _ _ _ e=>e,fun _ _=>Or.inl rfl,fun c h=>by omega⟩
theorem At.next {n k:Nat} {d:Nat→Nat→Nat} {g0 g g':Nat→Nat} {K0 i c0 K K':Nat} (h:At n k d g0 K0 i c0 g K) (hs:Split n g K (fun s=>g0 (d s c0)=i) g' K'):At n k d g0 K0 i (c0+1) g' K':=by
  refine ⟨Nat.le_trans h.le hs.le,fun s t a b e=>h.fine s t a b ((hs.iff s t a b).1 e).1,fun s a=>?_,fun c hc s t a b e=>?_⟩
  · rcases hs.new s a with e | e
    · rw [e];exact h.new s a
    · exact Or.inr (Nat.le_trans h.le e)
  · have e2:=(hs.iff s t a b).1 e
    by_cases hcc:c=c0
    · subst hcc;exact e2.2
    · exact h.by' c (by omega) s t a b e2.1
theorem At.done {n k:Nat} {d:Nat→Nat→Nat} {g0 g:Nat→Nat} {K0 i K:Nat} (hd:∀ s c,s < n→c < k→d s c < n) (h:At n k d g0 K0 i k g K) (hi:i < K0) (hI:Inv n k d g K i):Inv n k d g K (i+1):=fun j hj=>by
  by_cases e:j=i
  · subst e
    have key:∀ x,x < n→((g x=j∨∃ y,y < n∧g y=g x∧g0 y=j)↔g0 x=j):=fun x hx=>by
      constructor
      · rintro (e | ⟨y,hy,e,e2⟩)
        · rcases h.new x hx with e3 | e3 <;> omega
        · rw [← h.fine y x hy hx e];exact e2
      · exact fun e=>Or.inr ⟨x,hx,rfl,e⟩
    refine ⟨fun t=>t=j∨∃ y,y < n∧g y=t∧g0 y=j,Or.inl rfl,?_,?_⟩
    · rintro t (e | ⟨y,hy,e,e2⟩) ht
      · omega
      · rcases h.new y hy with e3 | e3 <;> omega
    · intro s t c hs ht hc e
      exact ((key _ (hd s c hs hc)).trans (h.by' c hc s t hs ht e)).trans (key _ (hd t c ht hc)).symm
  · exact hI j (by omega)
/-! ### numbers, as states are come to -/
def Ord:List Nat→Nat→Nat→Prop
  | [],m,M=>m=M
  | j :: F,m,M=>(j < m∧Ord F m M)∨(j=m∧Ord F (m+1) M)
def OrdRows:List (List Nat)→Nat→Nat→Nat→Prop
  | [],i,m,M=>m=M∧i=M
  | row :: rows,i,m,M=>i < m∧∃ m',Ord row m m'∧OrdRows rows (i+1) m' M
structure Lst (n k:Nat) (d:Nat→Nat→Nat) (o:Nat→Nat) (nx:List (List Nat)) (out r:List Nat):Prop where
  zero:r[0]?=some 0
  len:r.length=nx.length
  olen:out.length=nx.length
  st:∀ i s:Nat,r[i]?=some s→s < n∧out[i]?=some (o s)
  row:∀ i s:Nat,r[i]?=some s→∃ row,nx[i]?=some row∧row.length=k∧∀ c j:Nat,row[c]?=some j→∃ t,r[j]?=some t∧Eqv k d o t (d s c)
  one:∀ i j s t:Nat,r[i]?=some s→r[j]?=some t→Eqv k d o s t→i=j
  ord:OrdRows nx 0 1 nx.length
end Hm
end Go.Proofs.YtchaoonefiamdaaGreatDoor.L
namespace Go.Proofs.YtchaoonefiamdaaGreatDoor.L
open Go.RowKit Go.Maps
set_option linter.unusedVariables false
set_option linter.unusedSimpArgs false
structure Only (S:Nat→Prop) (w w':World):Prop where
  os:w'.os=w.os
  tape:w'.tape=w.tape
  output:w'.output=w.output
  size:w.heap.size≤w'.heap.size
  block:∀ g,g < w.heap.size→¬ S g→w'.heap[g]?=w.heap[g]?
theorem Only.refl (S:Nat→Prop) (w:World):Only S w w:=⟨rfl,rfl,rfl,Nat.le_refl _,fun _ _ _=>rfl⟩
theorem Only.trans {S:Nat→Prop} {a b c:World} (h:Only S a b) (k:Only S b c):Only S a c :=
  ⟨k.os.trans h.os,k.tape.trans h.tape,k.output.trans h.output,Nat.le_trans h.size k.size,fun g hg hS=>(k.block g (Nat.lt_of_lt_of_le hg h.size) hS).trans (h.block g hg hS)⟩
theorem Only.alloc {S:Nat→Prop} {a w:World} (h:Only S a w) (o:Obj):Only S a (w.alloc o) :=
  h.trans ⟨rfl,rfl,rfl,by simp,fun g hg _=>Below.heap_alloc _ _ _ hg⟩
theorem Only.setCell {S:Nat→Prop} {a w:World} (h:Only S a w) {p:Addr} (hp:S p.block) (u:Value):Only S a (w.setCell p u) :=
  h.trans ⟨rfl,rfl,rfl,by simp [World.setCell],fun g hg hS=>Below.heap_setCell _ _ _ _ (fun e=>hS (e ▸ hp))⟩
theorem Only.setNew {S:Nat→Prop} {a w:World} (h:Only S a w) {p:Addr} (hp:a.heap.size≤p.block) (u:Value):Only S a (w.setCell p u) :=
  ⟨h.os,h.tape,h.output,by simp [World.setCell];exact h.size,fun g hg hS=>(Below.heap_setCell _ _ _ _ (fun e=>by omega)).trans (h.block g hg hS)⟩
theorem Only.grown {S:Nat→Prop} {a w w':World} {row:Option Nat} (h:Only S a w) (hg:w.grownBy w' row) (hr:∀ k,row=some k→S k):Only S a w' :=
  h.trans ⟨hg.os,hg.tape,hg.output,hg.size,fun g hgl hS=>hg.block g hgl (fun e=>hS (hr g e.symm))⟩
theorem Only.drew {S:Nat→Prop} {a w:World} (h:Only S a w):Only S a w.drew:=⟨h.os,h.tape,h.output,h.size,h.block⟩
theorem Only.drewN {S:Nat→Prop} {a w:World} (h:Only S a w) (n:Nat):Only S a (w.drewN n):=⟨h.os,h.tape,h.output,h.size,h.block⟩
theorem Only.below {S:Nat→Prop} {a w:World} {B:Nat} (h:Only S a w) (hB:B≤a.heap.size) (hS:∀ g,S g→B≤g):Below B a w :=
  ⟨h.os,h.tape,h.output,h.size,fun g hg=>h.block g (by omega) (fun hs=>by have:=hS g hs;omega)⟩
theorem Only.mono {S S':Nat→Prop} {a w:World} (h:Only S a w) (hS:∀ g,S g→S' g):Only S' a w:=⟨h.os,h.tape,h.output,h.size,fun g hg hn=>h.block g hg (fun hs=>hn (hS g hs))⟩
theorem Only.old {P Q:Nat→Prop} {w0 w:World} (h:Only P w0 w) (hP:∀ g,P g→w0.heap.size≤g∨Q g):Only Q w0 w:=⟨h.os,h.tape,h.output,h.size,fun g hg hn=>h.block g hg (fun hp=>(hP g hp).elim (fun h=>by omega) hn)⟩
theorem cell_of_row (w:World) (b i:Nat) (cs:Array Value) (t:TypeId) (z:Nat × Nat) (h:w.heap[b]?=some (.cells cs t z)):w.cell? ⟨b,i,none⟩=cs[i]?:=by
  simp [World.cell?,h]
theorem heap_setCell_at {w:World} {b k:Nat} {cs:Array Value} {t:TypeId} {z:Nat × Nat} (h:w.heap[b]?=some (.cells cs t z)) (v:Value):(w.setCell ⟨b,k,none⟩ v).heap[b]?=some (.cells (cs.setIfInBounds k v) t z):=by
  obtain ⟨hb,e⟩:=Array.getElem?_eq_some_iff.1 h
  simp [World.setCell,hb,Array.getElem_modify,e]
theorem cell_blk {w:World} {b k:Nat} {cs:Array Value} {t:TypeId} (h:w.heap[b]?=some (.cells cs t (0,0))):w.cell? ⟨b,k,none⟩=cs[k]?:=cell_of_row _ _ _ _ _ _ h
theorem fz_blk {w:World} {b:Nat} {cs:Array Value} {t:TypeId} (h:w.heap[b]?=some (.cells cs t (0,0))) (k:Nat):w.frozen? ⟨b,k,none⟩=false:=by simp [World.frozen?,h]
theorem info_parts {P:Program} {e:TypeId} {z:Value} {n b:Nat} (h:(P.info? e).map (fun i=>(i.zero,i.size,i.bytes))=some (some z,n,b)):∃ i,P.info? e=some i∧i.zero=some z∧i.size=n∧i.bytes=b:=by
  cases hi:P.info? e with
  | none=>rw [hi] at h;cases h
  | some i =>
    rw [hi] at h
    simp only [Option.map_some,Option.some.injEq,Prod.mk.injEq] at h
    exact ⟨i,rfl,h.1,h.2.1,h.2.2⟩
theorem own_form {w:World} {base e size n:Nat} {v:Value} {xs:List Value} (h:w.ownsRow base e size v n xs):∃ a cap,v=.slice a n cap:=by
  obtain ⟨hl,⟨hv,h0⟩ | ⟨g,cap,cur,hv,_⟩⟩:=h
  · subst h0;exact ⟨none,0,hv⟩
  · exact ⟨_,cap,hv⟩
theorem own_only {w w':World} {base e size n:Nat} {v:Value} {xs:List Value} {P:Nat→Prop} (h:w.ownsRow base e size v n xs) (ho:Only P w w') (hP:∀ g,base≤g→¬ P g):w'.ownsRow base e size v n xs:=by
  obtain ⟨hl,h | ⟨g,cap,cur,hv,hb,hh,h1⟩⟩:=h
  · exact ⟨hl,Or.inl h⟩
  · exact ⟨hl,Or.inr ⟨g,cap,cur,hv,hb,(ho.block g (Array.getElem?_eq_some_iff.1 hh).1 (hP g hb)).trans hh,h1⟩⟩
theorem row_form {w:World} {base e size n:Nat} {v:Value} {xs:List Value} (h:w.ownsRow base e size v n xs) (hn:0 < n) :
    ∃ g cap,v=.slice (some ⟨g,0,none⟩) n cap∧base≤g∧g < w.heap.size∧n≤cap∧∀ j,j < n*size→w.cell? ⟨g,j,none⟩=xs[j]?:=by
  obtain ⟨hl,⟨hv,h0⟩ | ⟨g,cap,cur,hv,h1,h2,h3,h4,h5,h6⟩⟩:=h
  · omega
  · refine ⟨g,cap,hv,h1,(Array.getElem?_eq_some_iff.1 h2).1,h3,fun j hj=>?_⟩
    rw [cell_of_row w g j cur e (0,0) h2,← h6,List.getElem?_take,if_pos hj]
    simp
theorem own_cells {w:World} {base e n:Nat} {v:Value} {xs:List Value} (h:w.ownsRow base e 1 v n xs) (hn:0 < n):∃ g cap,v=.slice (some ⟨g,0,none⟩) n cap∧g < w.heap.size∧n≤maxLen∧∀ j u,xs[j]?=some u→w.cell? ⟨g,j,none⟩=some u:=by
  obtain ⟨hl,⟨hv,h0⟩ | ⟨g,cap,cur,hv,hb,hh,h1,h2,h3,h4⟩⟩:=h
  · omega
  · refine ⟨g,cap,hv,(Array.getElem?_eq_some_iff.1 hh).1,by omega,fun j u hj=>?_⟩
    refine (cell_of_row _ _ _ _ _ _ hh).trans ?_
    have hjl:=(List.getElem?_eq_some_iff.1 hj).1
    rw [← h4,List.getElem?_take] at hj
    split at hj
    · rw [Array.getElem?_toList] at hj
      exact hj
    · cases hj
theorem news1 (w:World) (v:Value) (t:TypeId):∀ (j:Nat) (u:Value),[v][j]?=some u→(w.alloc (.cells #[v] t)).cell? ((⟨w.heap.size,0,none⟩:Addr).add j)=some u:=by
  intro j u hj
  have hj0:=(List.getElem?_eq_some_iff.1 hj).1
  obtain rfl:j=0:=by simpa using hj0
  injection hj with hj
  subst hj
  rw [Addr.add_mid]
  exact (cell_of_row _ _ _ _ _ _ (heap_alloc_new w _)).trans rfl
theorem bx_made (w:World) (o p:Obj):((w.alloc o).alloc p).heap[w.heap.size]?=some o :=
  ((((Only.refl (fun _=>False) (w.alloc o)).alloc p).block w.heap.size (by simp) (fun h=>h))).trans (heap_alloc_new _ _)
def nums (l:List Nat):Array Value:=(l.map (fun (x:Nat)=>Value.int .i64 (x:Int))).toArray
theorem nums_size (l:List Nat):(nums l).size=l.length:=by simp [nums]
theorem nums_at (l:List Nat) (i:Nat):(nums l)[i]?=l[i]?.map (fun (x:Nat)=>Value.int .i64 (x:Int)):=by simp [nums]
theorem nums_set (l:List Nat) (i x:Nat):(nums l).setIfInBounds i (.int .i64 (x:Int))=nums (l.set i x):=by
  apply Array.ext_getElem?
  intro j
  rw [nums_at,Array.getElem?_setIfInBounds,nums_size,List.getElem?_set,nums_at]
  split
  · split
    · rfl
    · rfl
  · rfl
theorem cell_num {w:World} {b i x:Nat} {l:List Nat} {t:TypeId} (h:w.heap[b]?=some (.cells (nums l) t (0,0))) (hx:l[i]?=some x):w.cell? ⟨b,i,none⟩=some (.int .i64 (x:Int)):=by
  rw [cell_blk h,nums_at,hx]
  rfl
def Nb (w:World) (b:Nat) (l:List Nat):Prop:=w.heap[b]?=some (.cells (nums l) 3 (0,0))
theorem Nb.set {w:World} {b:Nat} {l:List Nat} (h:Nb w b l) (i x:Nat):Nb (w.setCell ⟨b,i,none⟩ (.int .i64 (x:Int))) b (l.set i x):=by
  unfold Nb
  rw [heap_setCell_at h,nums_set]
theorem Nb.off {w:World} {b c:Nat} {l:List Nat} (h:Nb w b l) (hn:b≠c) (i:Nat) (v:Value):Nb (w.setCell ⟨c,i,none⟩ v) b l:=(Below.heap_setCell _ _ _ _ hn).trans h
theorem Nb.lt {w:World} {b:Nat} {l:List Nat} (h:Nb w b l):b < w.heap.size:=(Array.getElem?_eq_some_iff.1 h).1
theorem Nb.only {S:Nat→Prop} {w w':World} {b:Nat} {l:List Nat} (h:Nb w b l) (ho:Only S w w') (hS:¬ S b):Nb w' b l:=(ho.block b h.lt hS).trans h
theorem Nb.cell {w:World} {b i x:Nat} {l:List Nat} (h:Nb w b l) (hx:l[i]?=some x):w.cell? ⟨b,i,none⟩=some (.int .i64 (x:Int)):=cell_num h hx
theorem Nb.fz {w:World} {b:Nat} {l:List Nat} (h:Nb w b l) (i:Nat):w.frozen? ⟨b,i,none⟩=false:=fz_blk h i
end Go.Proofs.YtchaoonefiamdaaGreatDoor.L
namespace Go.Proofs.YtchaoonefiamdaaGreatDoor.L
open Go.RowKit Go.Maps
set_option linter.unusedVariables false
set_option linter.unusedSimpArgs false
def Gb (w:World) (gb rb ab ob n:Nat) (vL:Value):Prop:=w.heap[gb]?=some (.cells #[.slice (some ⟨rb,0,none⟩) n n,.slice (some ⟨ab,0,none⟩) n n,.slice (some ⟨ob,0,none⟩) n n,vL] 138 (0,0))
theorem Gb.lt {w:World} {gb rb ab ob n:Nat} {vL:Value} (h:Gb w gb rb ab ob n vL):gb < w.heap.size:=(Array.getElem?_eq_some_iff.1 h).1
theorem Gb.only {S:Nat→Prop} {w w':World} {gb rb ab ob n:Nat} {vL:Value} (h:Gb w gb rb ab ob n vL) (ho:Only S w w') (hS:¬ S gb):Gb w' gb rb ab ob n vL:=(ho.block gb h.lt hS).trans h
theorem Gb.off {w:World} {gb rb ab ob n c:Nat} {vL:Value} (h:Gb w gb rb ab ob n vL) (hn:gb≠c) (i:Nat) (v:Value):Gb (w.setCell ⟨c,i,none⟩ v) gb rb ab ob n vL:=(Below.heap_setCell _ _ _ _ hn).trans h
theorem Gb.ne {w:World} {gb rb ab ob n b:Nat} {vL:Value} {l:List Nat} (h:Gb w gb rb ab ob n vL) (k:Nb w b l):gb≠b:=fun e=>by
  subst e
  unfold Gb at h
  unfold Nb at k
  rw [h] at k
  injection k with k
  injection k with _ k
  cases k
set_option maxRecDepth 100000 in
set_option maxHeartbeats 2000000 in
theorem swap_any (gb rb ab ob n:Nat) (vL:Value) (row at':List Nat) (i j s t:Nat) (w:World) (hG:Gb w gb rb ab ob n vL) (hr:Nb w rb row) (ha:Nb w ab at') (hra:rb≠ab) (hi:i < n) (hj:j < n) (hs:row[i]?=some s) (ht:row[j]?=some t) (hsn:s < n) (htn:t < n) (hn:n≤1000000) (hal:at'.length=n) :
    Calls Tryz.prog 92 #[.pointer (some ⟨gb,0,none⟩),.int .i64 (i:Int),.int .i64 (j:Int)] w fun e w'=>e=.returned (.tuple #[])∧Nb w' rb ((row.set i t).set j s)∧Nb w' ab ((at'.set s j).set t i)∧Only (fun b=>b=rb∨b=ab) w w':=by
  have HG:Hid (Gb w gb rb ab ob n vL):=hG
  have HR:Hid (Nb w rb row):=hr
  have HA:Hid (Nb w ab at'):=ha
  have hgr:gb≠rb:=hG.ne hr
  have hga:gb≠ab:=hG.ne ha
  have l1:=hG.lt
  have l2:=hr.lt
  have l3:=ha.lt
  have k0:w.cell? ⟨gb,0,none⟩=some (.slice (some ⟨rb,0,none⟩) n n):=cell_blk hG
  have k1:w.cell? ⟨gb,1,none⟩=some (.slice (some ⟨ab,0,none⟩) n n):=cell_blk hG
  have c0:=hr.cell hs
  have c1:=hr.cell ht
  have i1:(i:Int) < (n:Int):=by omega
  have i2:(j:Int) < (n:Int):=by omega
  have i3:(s:Int) < (n:Int):=by omega
  have i4:(t:Int) < (n:Int):=by omega
  have f1:∀ x,w.frozen? ⟨rb,x,none⟩=false:=fun x=>hr.fz x
  have f2:∀ x,w.frozen? ⟨ab,x,none⟩=false:=fun x=>ha.fz x
  have hrl:row[j]?=some t:=ht
  have HRM:Hid (∀ m,Nb (w.drewN m) rb row):=fun m=>hr
  have HAM:Hid (∀ m,Nb (w.drewN m) ab at'):=fun m=>ha
  have e1:∀ m,((w.drewN m).setCell ⟨rb,i,none⟩ (.int .i64 (t:Int))).cell? ⟨rb,j,none⟩=some (.int .i64 (t:Int)):=fun m=>((HRM.out m).set i t).cell (by
    rw [List.getElem?_set]
    split
    · rename_i e
      rw [if_pos (by have:=(List.getElem?_eq_some_iff.1 hs).1;omega)]
    · exact ht)
  have g1:∀ m x,((w.drewN m).setCell ⟨rb,i,none⟩ (.int .i64 (t:Int))).frozen? ⟨rb,x,none⟩=false:=fun m x=>((HRM.out m).set i t).fz x
  have HAL:Hid (at'.length=n):=hal
  clear hG hr ha hs ht hrl hal
  go_enter Tryz.func92,Tryz.ntmps92
  go_wp2_with fail
  go_quiet (fail)
  go_wp2_with fail
  go_region
  obtain ⟨X,hX⟩:∃ X,X=((w.drewN (nq+1)).setCell ⟨rb,i,none⟩ (.int .i64 (t:Int))).setCell ⟨rb,j,none⟩ (.int .i64 (s:Int)):=⟨_,rfl⟩
  have HXR:Hid (Nb X rb ((row.set i t).set j s)):=by rw [hX];exact ((HRM.out _).set i t).set j s
  have HXA:Hid (Nb X ab at'):=by rw [hX];exact ((HAM.out _).off (Ne.symm hra) _ _).off (Ne.symm hra) _ _
  have HXG:Hid (Gb X gb rb ab ob n vL):=by rw [hX];exact (Gb.off (w:=w.drewN (nq+1)) HG.out hgr _ _).off hgr _ _
  have HXO:Hid (Only (fun b=>b=rb∨b=ab) w X):=by rw [hX];exact (((Only.refl _ w).drewN _).setCell (Or.inl rfl) _).setCell (Or.inl rfl) _
  rw [← hX]
  clear hX e1 g1 k0 k1 c0 c1 f1 f2 l1 l2 l3
  have k1:X.cell? ⟨gb,1,none⟩=some (.slice (some ⟨ab,0,none⟩) n n):=cell_blk HXG.out
  have HXM:Hid (∀ m,Nb (X.drewN m) ab at'):=fun m=>HXA.out
  have f2:∀ x,X.frozen? ⟨ab,x,none⟩=false:=fun x=>HXA.out.fz x
  have l1:=HXG.out.lt
  have l3:=HXA.out.lt
  obtain ⟨y1,hy1⟩:∃ y1,at'[s]?=some y1:=⟨_,List.getElem?_eq_getElem (by have:=HAL.out;omega)⟩
  obtain ⟨y2,hy2⟩:∃ y2,(at'.set s j)[t]?=some y2:=⟨_,List.getElem?_eq_getElem (by rw [List.length_set];have:=HAL.out;omega)⟩
  have c2:=HXA.out.cell hy1
  have e2:(X.setCell ⟨ab,s,none⟩ (.int .i64 (j:Int))).cell? ⟨ab,t,none⟩=some (.int .i64 (y2:Int)):=(HXA.out.set s j).cell hy2
  have g2:∀ x,(X.setCell ⟨ab,s,none⟩ (.int .i64 (j:Int))).frozen? ⟨ab,x,none⟩=false:=fun x=>(HXA.out.set s j).fz x
  clear hy1 hy2
  go_wp2_with fail
  go_region
  go_wp2_with fail
  go_end0
  refine ⟨rfl,?_,?_,?_⟩
  · exact (HXR.out.off hra _ _).off hra _ _
  · exact (HXA.out.set s j).set t i
  · exact ((HXO.out.setCell (Or.inr rfl) _).setCell (Or.inr rfl) _).drew
end Go.Proofs.YtchaoonefiamdaaGreatDoor.L
