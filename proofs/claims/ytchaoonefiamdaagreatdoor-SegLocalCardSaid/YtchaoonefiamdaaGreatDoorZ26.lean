/- Sg1 Sg8 Sg9 -/
import Derived.Test.YtchaoonefiamdaaGreatDoorZ21
import Derived.Test.YtchaoonefiamdaaGreatDoorZ25
import Derived.Deep.OwnRows
import Derived.Deep.AppendLies
namespace Go.Proofs.YtchaoonefiamdaaGreatDoor
open Go.RowKit Go.Maps
set_option linter.unusedVariables false
set_option linter.unusedSimpArgs false
theorem info25:(Tryz.prog.info? 25).map (fun i=>(i.zero,i.size,i.bytes))=some (some (.int .u8 0),1,1):=by kernel_rfl
def u8a (l:List Int):Array Value:=(l.map (fun x=>Value.int .u8 x)).toArray
theorem u8a_at (l:List Int) (i:Nat):(u8a l)[i]?=l[i]?.map (fun x=>Value.int .u8 x):=by simp [u8a]
theorem u8a_set (l:List Int) (i:Nat) (x:Int):(u8a l).setIfInBounds i (.int .u8 x)=u8a (l.set i x):=by
  unfold u8a
  rw [List.setIfInBounds_toArray,List.map_set]
theorem made_u8 (n:Nat):madeCells #[.int .u8 0] n=u8a (List.replicate n 0):=by
  apply Array.ext
  · simp [u8a,size_madeCells]
  · intro i h1 h2
    simp [madeCells,u8a,Nat.mod_one]
def Ub (w:World) (b:Nat) (l:List Int):Prop:=w.heap[b]?=some (.cells (u8a l) 25 (0,0))
theorem Ub.set {w:World} {b:Nat} {l:List Int} (h:Ub w b l) (i:Nat) (x:Int):Ub (w.setCell ⟨b,i,none⟩ (.int .u8 x)) b (l.set i x):=by
  have:=heap_setCell_at (k:=i) h (.int .u8 x)
  rw [u8a_set] at this
  exact this
theorem Ub.lt {w:World} {b:Nat} {l:List Int} (h:Ub w b l):b < w.heap.size:=(Array.getElem?_eq_some_iff.1 h).1
theorem Ub.cell {w:World} {b i:Nat} {x:Int} {l:List Int} (h:Ub w b l) (hx:l[i]?=some x):w.cell? ⟨b,i,none⟩=some (.int .u8 x):=by
  rw [cell_blk h,u8a_at,hx]
  rfl
theorem Ub.fz {w:World} {b:Nat} {l:List Int} (h:Ub w b l) (i:Nat):w.frozen? ⟨b,i,none⟩=false:=fz_blk h i
def fst0 (l:List Int) (k:Nat):List Int:=l.take k++List.replicate (l.length - k) 0
theorem fst0_len {l:List Int} {k:Nat} (h:k≤l.length):(fst0 l k).length=l.length:=by simp [fst0];omega
theorem fst0_zero (l:List Int):fst0 l 0=List.replicate l.length 0:=by simp [fst0]
theorem fst0_full (l:List Int):fst0 l l.length=l:=by simp [fst0]
theorem fst0_set {l:List Int} {k:Nat} {x:Int} (h:l[k]?=some x):(fst0 l k).set k x=fst0 l (k+1):=by
  obtain ⟨hl,rfl⟩:=List.getElem?_eq_some_iff.1 h
  unfold fst0
  rw [List.set_append_right _ _ (by simp;omega),List.length_take,Nat.min_eq_left (by omega),Nat.sub_self,show l.length - k=(l.length - (k+1))+1 by omega,List.replicate_succ,List.set_cons_zero,List.take_add_one,List.getElem?_eq_getElem hl]
  simp only [Option.toList,List.append_assoc,List.cons_append,List.nil_append]
set_option maxRecDepth 100000 in
set_option maxHeartbeats 4000000 in
theorem doings_any (l:List Rl.Rule) (B:Nat) (a:Option Addr) (c:Nat) (w:World) (hL:Rls w B (.slice a l.length c) l) (hn:l.length≤24) :
    Calls Tryz.prog 22 #[.slice a l.length c] w fun e w'=>∃ b,e=.returned (.slice (some ⟨b,0,none⟩) l.length l.length)∧w.heap.size≤b∧Ub w' b (l.map (·.does))∧Only (fun _=>False) w w':=by
  have HL:Hid (Rls w B (.slice a l.length c) l):=hL
  obtain ⟨n,hnl⟩:∃ n,n=l.length:=⟨_,rfl⟩
  have HNL:Hid (n=l.length):=hnl
  rw [← hnl] at hn hL ⊢
  clear hL hnl
  have hmk:=fun (w:World)=>run_make_row' (P:=Tryz.prog) 36 25 (.int .u8 0) 1 Tryz.underlying36 info25 rfl .i64 .i64 n (by omega) (by omega) w
  go_enter Tryz.func22,Tryz.ntmps22
  go_wp2_with fail
  go_loopg [11] n (fun gh v wr=>∃ (k:Nat) (W:World),W=wr∧gh=n - k∧k≤n∧v=.int .i64 (k:Int)∧Ub W w.heap.size (fst0 (l.map (·.does)) k)∧Only (fun _=>False) w W)
  case atStart =>
    refine ⟨0,_,rfl,rfl,Nat.zero_le _,rfl,?_,(Only.refl _ _).alloc _⟩
    rw [fst0_zero,List.length_map,← HNL.out]
    unfold Ub
    rw [← made_u8]
    exact heap_alloc_new w _
  case round =>
    obtain ⟨k,W,hW,rfl,hk,rfl,hU,ho⟩:=hrel
    subst hW
    have HU:Hid (Ub W w.heap.size (fst0 (l.map (·.does)) k)):=hU
    have HO:Hid (Only (fun _=>False) w W):=ho
    have lub:=hU.lt
    by_cases hlt:k < n
    · have t1:(k:Int) < (n:Int):=by omega
      obtain ⟨r,hr⟩:∃ r,l[k]?=some r:=⟨_,List.getElem?_eq_getElem (by rw [← HNL.out];exact hlt)⟩
      have hd:(l.map (·.does))[k]?=some r.does:=by rw [List.getElem?_map,hr];rfl
      have HD:Hid ((l.map (·.does))[k]?=some r.does):=hd
      obtain ⟨g,op,st,a1,n1,cap,op',st',a1',n1',cap',rfl,hg,e0,e1,e2,e3,_,e4,e5,e6,_⟩:=Rls.get HL.out hr
      have hgW:W.heap[g]?=w.heap[g]?:=ho.block g hg (fun h=>h)
      have q0:=(World.cell?_of_block (a:=⟨g,k*7,none⟩) hgW).trans e0
      have q1:=(World.cell?_of_block (a:=⟨g,k*7+1,none⟩) hgW).trans e1
      have q2:=(World.cell?_of_block (a:=⟨g,k*7+2,none⟩) hgW).trans e2
      have q3:=(World.cell?_of_block (a:=⟨g,k*7+3,none⟩) hgW).trans e3
      have q4:=(World.cell?_of_block (a:=⟨g,k*7+4,none⟩) hgW).trans e4
      have q5:=(World.cell?_of_block (a:=⟨g,k*7+5,none⟩) hgW).trans e5
      have q6:=(World.cell?_of_block (a:=⟨g,k*7+6,none⟩) hgW).trans e6
      have lg:g < W.heap.size:=Nat.lt_of_lt_of_le hg ho.size
      obtain ⟨x,hx⟩:∃ x,(fst0 (l.map (·.does)) k)[k]?=some x:=⟨_,List.getElem?_eq_getElem (by rw [fst0_len (by rw [List.length_map,← HNL.out];exact hk),List.length_map,← HNL.out];exact hlt)⟩
      have u0:=hU.cell hx
      have u1:∀ x,W.frozen? ⟨w.heap.size,x,none⟩=false:=fun x=>hU.fz x
      clear hU ho hd hr hgW e0 e1 e2 e3 e4 e5 e6 hx hmk
      go_wp2_with fail
      go_roundg (n - (k+1))
      case measure=>omega
      case rel =>
        refine ⟨k+1,_,rfl,rfl,by omega,by go_num,?_,(HO.out.setNew (p:=⟨w.heap.size,k,none⟩) (Nat.le_refl _) _).alloc _⟩
        have hs:=HU.out.set k r.does
        rw [fst0_set HD.out] at hs
        exact (Below.heap_alloc _ _ _ hs.lt).trans hs
    · have t2:decide ((k:Int) < (n:Int))=false:=decide_eq_false (by omega)
      have hkn:k=n:=by omega
      subst hkn
      clear hU ho hmk
      go_wp2_with fail
      go_ret
      refine ⟨w.heap.size,rfl,Nat.le_refl _,?_,HO.out⟩
      have:=HU.out
      rw [show fst0 (l.map (·.does)) k=l.map (·.does) by have:=fst0_full (l.map (·.does));rw [List.length_map,← HNL.out] at this;exact this] at this
      exact this
end Go.Proofs.YtchaoonefiamdaaGreatDoor
namespace Go.Proofs.YtchaoonefiamdaaGreatDoor
open Go.RowKit Go.Maps
set_option linter.unusedVariables false
set_option linter.unusedSimpArgs false
open Rl (Ex)
mutual
def Sok:Ex→Prop
  | .mk _ set kids=>0≤set∧set < 4294967296∧Soks kids
def Soks:List Ex→Prop
  | []=>True
  | e :: es=>Sok e∧Soks es
end
mutual
theorem Tr.te {w:World} {F:Nat→Prop}:∀ (e:Ex) (v:Value),Rl.Small e→Sok e→Tr w F e v→Te w F e v
  | .mk op set kids,v,hs,ho,h=>by
    unfold Tr at h
    unfold Sok at ho
    unfold Te
    obtain ⟨a,cap,h1,h2,h3⟩:=h
    obtain ⟨k1,k2⟩:=hs.kids
    refine ⟨a,cap,h1,h2,by unfold maxLen;omega,ho.1,ho.2.1,fun hn=>?_⟩
    obtain ⟨b,cs,z,g1,g2,g3,g4⟩:=h3 hn
    exact ⟨b,0,g1,g2,Trs.te kids b 0 _ (fun j=>by rw [Nat.zero_add];exact (cell_of_row _ _ _ _ _ _ g3).symm) k2 ho.2.2 g4⟩
theorem Trs.te {w:World} {F:Nat→Prop}:∀ (es:List Ex) (b off:Nat) (c:Nat→Option Value),(∀ j,c j=w.cell? ⟨b,off+j,none⟩)→(∀ k∈es,Rl.Small k)→Soks es→Trs w F es c→Tes w F es b off
  | [],_,_,_,_,_,_,_=>by unfold Tes;trivial
  | e :: es,b,off,c,hc,hs,ho,h=>by
    unfold Trs at h
    unfold Soks at ho
    unfold Tes
    obtain ⟨⟨o,s,k,c0,c1,c2,ht⟩,hr⟩:=h
    refine ⟨⟨o,s,k,by rw [← c0,hc 0];rfl,by rw [← c1,hc 1],by rw [← c2,hc 2],Tr.te e _ (hs e (by simp)) ho.1 ht⟩,Trs.te es b (off+3) _ (fun j=>?_) (fun k hk=>hs k (by simp [hk])) ho.2 hr⟩
    rw [hc (j+3)]
    congr 2
    omega
end
def Txs (w:World) (F:Nat→Prop) (es:List Ex) (xs:List Value):Prop:=∀ (i:Nat) (e:Ex),es[i]?=some e→∃ o s k,xs[i*3]?=some o∧xs[i*3+1]?=some s∧xs[i*3+2]?=some k∧Te w F e (.agg #[o,s,k])
theorem Txs.snoc {w:World} {F:Nat→Prop} {es:List Ex} {xs:List Value} (h:Txs w F es xs) (hl:xs.length=es.length*3) {e:Ex} {o s k:Value} (he:Te w F e (.agg #[o,s,k])):Txs w F (es++[e]) (xs++[o,s,k]):=by
  intro i x hx
  by_cases hlt:i < es.length
  · rw [List.getElem?_append_left hlt] at hx
    obtain ⟨o',s',k',h1,h2,h3,h4⟩:=h i x hx
    exact ⟨o',s',k',by rw [List.getElem?_append_left (by omega)];exact h1,by rw [List.getElem?_append_left (by omega)];exact h2,by rw [List.getElem?_append_left (by omega)];exact h3,h4⟩
  · have hi:=(List.getElem?_eq_some_iff.1 hx).1
    simp at hi
    obtain rfl:i=es.length:=by omega
    rw [List.getElem?_append_right (Nat.le_refl _)] at hx
    simp at hx
    subst hx
    refine ⟨o,s,k,?_,?_,?_,he⟩
    · rw [List.getElem?_append_right (by omega),hl];simp
    · rw [List.getElem?_append_right (by omega),hl,show es.length*3+1 - es.length*3=1 by omega];rfl
    · rw [List.getElem?_append_right (by omega),hl,show es.length*3+2 - es.length*3=2 by omega];rfl
theorem Tes.of {w W:World} {F F':Nat→Prop} (hk:Kp w W F) (hF:∀ b,F b→F' b):∀ (es:List Ex) (b off:Nat),(∀ (i:Nat) (e:Ex),es[i]?=some e→∃ o s k,W.cell? ⟨b,off+i*3,none⟩=some o∧W.cell? ⟨b,off+i*3+1,none⟩=some s∧W.cell? ⟨b,off+i*3+2,none⟩=some k∧Te w F e (.agg #[o,s,k]))→Tes W F' es b off
  | [],_,_,_=>by unfold Tes;trivial
  | e :: es,b,off,h=>by
    unfold Tes
    obtain ⟨o,s,k,h1,h2,h3,h4⟩:=h 0 e rfl
    refine ⟨⟨o,s,k,by simpa using h1,by simpa using h2,by simpa using h3,Te.keep hk hF e _ h4⟩,Tes.of hk hF es b (off+3) (fun i x hx=>?_)⟩
    obtain ⟨o,s,k,h1,h2,h3,h4⟩:=h (i+1) x (by simpa using hx)
    rw [show off+(i+1)*3=off+3+i*3 by omega] at h1 h2 h3
    exact ⟨o,s,k,h1,h2,h3,h4⟩
theorem Lex.of {w W:World} {F:Nat→Prop} {es:List Ex} {xs:List Value} {v:Value} {base:Nat} (hT:Txs w F es xs) (ho:W.ownsRow base 88 3 v es.length xs) (hk:Kp w W F) (hF:∀ b,F b→b < W.heap.size) (hl:es.length≤1000):∃ a c,v=.slice a es.length c∧Lex W (fun b=>b < W.heap.size) es a c:=by
  obtain ⟨a,c,rfl⟩:=own_form ho
  refine ⟨a,c,rfl,by unfold maxLen;omega,fun hn=>?_⟩
  have h0:0 < es.length:=List.length_pos_iff.2 hn
  obtain ⟨g,cap,hv,_,hl2,_,hc⟩:=row_form ho h0
  injection hv with e1
  refine ⟨g,0,e1,hl2,Tes.of hk hF es g 0 (fun i e hi=>?_)⟩
  have hi2:=(List.getElem?_eq_some_iff.1 hi).1
  obtain ⟨o,s,k,h1,h2,h3,h4⟩:=hT i e hi
  exact ⟨o,s,k,by rw [Nat.zero_add,hc _ (by omega)];exact h1,by rw [Nat.zero_add,hc _ (by omega)];exact h2,by rw [Nat.zero_add,hc _ (by omega)];exact h3,h4⟩
theorem old_at {w W:World} (h:Only (fun _=>False) w W) {b k:Nat} {v:Value} (hc:w.cell? ⟨b,k,none⟩=some v):W.cell? ⟨b,k,none⟩=some v:=(World.cell?_of_block (a:=⟨b,k,none⟩) (h.block b (World.block_lt_of_cell? w _ hc) (fun h=>h))).trans hc
def Dj (v u:Value):Prop:=∀ q,v.ownBlock=some q→u.ownBlock≠some q
theorem two_new (W:World) (o p:Obj):((W.alloc o).alloc p).heap[W.heap.size]?=some o:=(Below.heap_alloc _ _ _ (by simp)).trans (heap_alloc_new W o)
set_option maxRecDepth 100000 in
set_option maxHeartbeats 4000000 in
theorem sides_any (l:List Rl.Rule) (B:Nat) (a:Option Addr) (c:Nat) (w:World) (hL:Rls w B (.slice a l.length c) l) (hn:l.length≤24) (hS:∀ r∈l,Rl.Small r.left∧Rl.Small r.right∧Sok r.left∧Sok r.right) :
    Calls Tryz.prog 17 #[.slice a l.length c] w fun e w'=>∃ a1 c1 a2 c2,e=.returned (.tuple #[.slice a1 l.length c1,.slice a2 l.length c2])∧Lex w' (fun b=>b < w'.heap.size) (l.map (·.left)) a1 c1∧Lex w' (fun b=>b < w'.heap.size) (l.map (·.right)) a2 c2∧Only (fun _=>False) w w':=by
  have HTL:Hid (∀ (k:Nat) (r:Rl.Rule),l[k]?=some r→∃ g op st a1 m1 c1 op' st' a2 m2 c2,a=some ⟨g,0,none⟩∧g < w.heap.size∧w.cell? ⟨g,k*7,none⟩=some (.int .u8 r.does)∧w.cell? ⟨g,k*7+1,none⟩=some (.int .u8 op)∧w.cell? ⟨g,k*7+2,none⟩=some (.int .u32 st)∧w.cell? ⟨g,k*7+3,none⟩=some (.slice a1 m1 c1)∧w.cell? ⟨g,k*7+4,none⟩=some (.int .u8 op')∧w.cell? ⟨g,k*7+5,none⟩=some (.int .u32 st')∧w.cell? ⟨g,k*7+6,none⟩=some (.slice a2 m2 c2)∧Te w (fun b=>b < w.heap.size) r.left (.agg #[.int .u8 op,.int .u32 st,.slice a1 m1 c1])∧Te w (fun b=>b < w.heap.size) r.right (.agg #[.int .u8 op',.int .u32 st',.slice a2 m2 c2])):=fun k r hr=>by
    obtain ⟨g,op,st,a1,m1,c1,op',st',a2,m2,c2,e0,e1,e2,e3,e4,e5,e6,e7,e8,e9,e10⟩:=Rls.get hL hr
    obtain ⟨h1,h2,h3,h4⟩:=hS r (List.mem_of_getElem? hr)
    exact ⟨g,op,st,a1,m1,c1,op',st',a2,m2,c2,e0,e1,e2,e3,e4,e5,e7,e8,e9,Tr.te _ _ h1 h3 (Tr.keep (fun b _ hl=>⟨hl,rfl⟩) _ _ e6),Tr.te _ _ h2 h4 (Tr.keep (fun b _ hl=>⟨hl,rfl⟩) _ _ e10)⟩
  obtain ⟨i9,h9,h90,h91,h92⟩:=info_parts info50
  obtain ⟨n,hnl⟩:∃ n,n=l.length:=⟨_,rfl⟩
  have HNL:Hid (n=l.length):=hnl
  rw [← hnl] at hn ⊢
  clear hL hS hnl
  go_enter Tryz.func17,Tryz.ntmps17
  go_wp2_with fail
  go_loopg [2,3,8] n (fun gh v1 v2 v3 wr=>∃ (k:Nat) (xs ys:List Value) (aL aR:Option Addr) (cL cR:Nat) (W:World),W=wr∧gh=n - k∧k≤n∧v1=.slice aL k cL∧v2=.slice aR k cR∧v3=.int .i64 (k:Int)∧W.ownsRow w.heap.size 88 3 (.slice aL k cL) k xs∧W.ownsRow w.heap.size 88 3 (.slice aR k cR) k ys∧Dj (.slice aL k cL) (.slice aR k cR)∧Txs w (fun b=>b < w.heap.size) ((l.take k).map (·.left)) xs∧Txs w (fun b=>b < w.heap.size) ((l.take k).map (·.right)) ys∧Only (fun _=>False) w W)
  case atStart=>exact ⟨0,[],[],none,none,0,0,_,rfl,rfl,Nat.zero_le _,rfl,rfl,rfl,World.ownsRow_nil _ _ _ _,World.ownsRow_nil _ _ _ _,fun q h=>by simp [Value.ownBlock] at h,fun i e h=>by simp at h,fun i e h=>by simp at h,Only.refl _ _⟩
  case round =>
    obtain ⟨k,xs,ys,aL,aR,cL,cR,W,hW,rfl,hk,rfl,rfl,rfl,howl,howr,hdj,htl,htr,ho⟩:=hrel
    subst hW
    have HOL:Hid (W.ownsRow w.heap.size 88 3 (.slice aL k cL) k xs):=howl
    have HOR:Hid (W.ownsRow w.heap.size 88 3 (.slice aR k cR) k ys):=howr
    have HDJ:Hid (Dj (.slice aL k cL) (.slice aR k cR)):=hdj
    have HXL:Hid (Txs w (fun b=>b < w.heap.size) ((l.take k).map (·.left)) xs):=htl
    have HXR:Hid (Txs w (fun b=>b < w.heap.size) ((l.take k).map (·.right)) ys):=htr
    have HO:Hid (Only (fun _=>False) w W):=ho
    by_cases hlt:k < n
    · have t1:(k:Int) < (n:Int):=by omega
      obtain ⟨r,hr⟩:∃ r,l[k]?=some r:=⟨_,List.getElem?_eq_getElem (by rw [← HNL.out];exact hlt)⟩
      obtain ⟨g,op,st,a1,m1,c1,op',st',a2,m2,c2,rfl,hgl,e0,e1,e2,e3,e4,e5,e6,tl,tr⟩:=HTL.out k r hr
      have d0:=old_at ho e0
      have d1:=old_at ho e1
      have d2:=old_at ho e2
      have d3:=old_at ho e3
      have d4:=old_at ho e4
      have d5:=old_at ho e5
      have d6:=old_at ho e6
      have hgl2:g < W.heap.size:=Nat.lt_of_lt_of_le hgl ho.size
      have HTE:Hid (Te w (fun b=>b < w.heap.size) r.left (.agg #[.int .u8 op,.int .u32 st,.slice a1 m1 c1])∧Te w (fun b=>b < w.heap.size) r.right (.agg #[.int .u8 op',.int .u32 st',.slice a2 m2 c2])):=⟨tl,tr⟩
      have HTK:Hid (l.take (k+1)=l.take k++[r]):=by
        show _=_
        have hlt2:=(List.getElem?_eq_some_iff.1 hr).1
        rw [List.take_succ_eq_append_getElem hlt2,(List.getElem?_eq_some_iff.1 hr).2]
      have HKL:Hid ((l.take k).length=k):=by
        show _=_
        rw [List.length_take,← HNL.out]
        omega
      clear howl howr hdj htl htr ho e0 e1 e2 e3 e4 e5 e6 tl tr hr
      go_wp2_with (first | (at_builtin;refine wpList_append_own_at _ rfl _ _ 57 rfl w.heap.size 88 i9 _ 3 32 Tryz.underlying57 h9 h90 h91 h92 rfl (by decide) _ _ _ rfl ((HOL.out.alloc (.cells #[.int .u8 r.does,.int .u8 op,.int .u32 st,.slice a1 m1 c1,.int .u8 op',.int .u32 st',.slice a2 m2 c2] 90)).alloc (.cells #[.int .u8 op,.int .u32 st,.slice a1 m1 c1] 88)) ⟨W.heap.size+1,0,none⟩ 1 1 [.int .u8 op,.int .u32 st,.slice a1 m1 c1] rfl rfl (World.news_of_block (heap_alloc2_new W _ _)) (fun u hu=>by simp at hu;rcases hu with rfl | rfl | rfl <;> rfl) (by unfold maxLen;omega) (by omega) (by have:=HO.out.size;simp;omega) ?_;intro v8 w8 hown8 hg8 _ hbl8;have HO8:Hid (Only (fun q=>(Value.slice aL k cL).ownBlock=some q) ((W.alloc (.cells #[.int .u8 r.does,.int .u8 op,.int .u32 st,.slice a1 m1 c1,.int .u8 op',.int .u32 st',.slice a2 m2 c2] 90)).alloc (.cells #[.int .u8 op,.int .u32 st,.slice a1 m1 c1] 88)) w8):=(Only.refl _ _).grown hg8 (fun k h=>h);obtain ⟨aL8,cL8,rfl⟩:=own_form hown8;have HW8:Hid (w8.ownsRow w.heap.size 88 3 (.slice aL8 (k+1) cL8) (k+1) (xs++[.int .u8 op,.int .u32 st,.slice a1 m1 c1])):=hown8;have HB8:Hid ((Value.slice aL8 (k+1) cL8).ownBlock=(Value.slice aL k cL).ownBlock∨(Value.slice aL8 (k+1) cL8).ownBlock=some (W.heap.size+2)):=(by rw [show ((W.alloc (.cells #[.int .u8 r.does,.int .u8 op,.int .u32 st,.slice a1 m1 c1,.int .u8 op',.int .u32 st',.slice a2 m2 c2] 90)).alloc (.cells #[.int .u8 op,.int .u32 st,.slice a1 m1 c1] 88)).heap.size=W.heap.size+2 by simp] at hbl8;exact hbl8);have hr8:w8.heap[W.heap.size]?=some (.cells #[.int .u8 r.does,.int .u8 op,.int .u32 st,.slice a1 m1 c1,.int .u8 op',.int .u32 st',.slice a2 m2 c2] 90 (0,0)):=(HO8.out.block _ (by simp;omega) (fun e=>by have:=(HOL.out.lt _ e).2;omega)).trans (two_new W _ _);have y4:w8.cell? ⟨W.heap.size,4,none⟩=some (.int .u8 op'):=cell_blk hr8;have y5:w8.cell? ⟨W.heap.size,5,none⟩=some (.int .u32 st'):=cell_blk hr8;have y6:w8.cell? ⟨W.heap.size,6,none⟩=some (.slice a2 m2 c2):=cell_blk hr8;have ly:W.heap.size < w8.heap.size:=(Array.getElem?_eq_some_iff.1 hr8).1;have HS8:Hid (W.heap.size+2≤w8.heap.size):=(by have:=HO8.out.size;simp at this;exact this);have HR8:Hid (w8.ownsRow w.heap.size 88 3 (.slice aR k cR) k ys):=own_keep ((HOR.out.alloc _).alloc _) HO8.out (fun q hq e=>HDJ.out q e hq);have HO9:Hid (Only (fun _=>False) w w8):=(((HO.out.alloc _).alloc _).mono (fun _ h=>h.elim)).trans HO8.out |>.old (fun g hg=>Or.inl (HOL.out.lt g hg).1);clear hown8 hg8 hbl8 hr8) | (at_builtin;refine wpList_append_own_at _ rfl _ _ 57 rfl w.heap.size 88 i9 _ 3 32 Tryz.underlying57 h9 h90 h91 h92 rfl (by decide) _ _ _ rfl (HR8.out.alloc (.cells #[.int .u8 op',.int .u32 st',.slice a2 m2 c2] 88)) ⟨w8.heap.size,0,none⟩ 1 1 [.int .u8 op',.int .u32 st',.slice a2 m2 c2] rfl rfl (World.news_of_block (heap_alloc_new w8 _)) (fun u hu=>by simp at hu;rcases hu with rfl | rfl | rfl <;> rfl) (by unfold maxLen;omega) (by omega) (by have:=HO9.out.size;simp;omega) ?_;intro v10 w10 hown10 hg10 _ hbl10;have HO10:Hid (Only (fun q=>(Value.slice aR k cR).ownBlock=some q) (w8.alloc (.cells #[.int .u8 op',.int .u32 st',.slice a2 m2 c2] 88)) w10):=(Only.refl _ _).grown hg10 (fun k h=>h);obtain ⟨aR10,cR10,rfl⟩:=own_form hown10;have HW10:Hid (w10.ownsRow w.heap.size 88 3 (.slice aR10 (k+1) cR10) (k+1) (ys++[.int .u8 op',.int .u32 st',.slice a2 m2 c2])):=hown10;have HB10:Hid ((Value.slice aR10 (k+1) cR10).ownBlock=(Value.slice aR k cR).ownBlock∨(Value.slice aR10 (k+1) cR10).ownBlock=some (w8.heap.size+1)):=(by rw [show (w8.alloc (.cells #[.int .u8 op',.int .u32 st',.slice a2 m2 c2] 88)).heap.size=w8.heap.size+1 by simp] at hbl10;exact hbl10);clear hown10 hg10 hbl10))
      go_roundg (n - (k+1))
      case measure=>omega
      case rel =>
        refine ⟨k+1,xs++[.int .u8 op,.int .u32 st,.slice a1 m1 c1],ys++[.int .u8 op',.int .u32 st',.slice a2 m2 c2],aL8,aR10,cL8,cR10,w10,rfl,rfl,by omega,rfl,rfl,by go_num,?_,HW10.out,?_,?_,?_,?_⟩
        · refine own_keep (HW8.out.alloc _) HO10.out (fun q hq e=>?_)
          rcases HB8.out with h | h
          · exact HDJ.out q (h.symm.trans hq) e
          · rw [h] at hq
            injection hq with hq
            have:=(HOR.out.lt q e).2
            omega
        · intro q hq e
          rcases HB10.out with h | h
          · rw [h] at e
            rcases HB8.out with h' | h'
            · exact HDJ.out q (h'.symm.trans hq) e
            · rw [h'] at hq
              injection hq with hq
              have:=(HOR.out.lt q e).2
              omega
          · rw [h] at e
            injection e with e
            have:=(HW8.out.lt q hq).2
            omega
        · rw [HTK.out,List.map_append]
          exact HXL.out.snoc (by rw [List.length_map,HKL.out];exact HOL.out.1) HTE.out.1
        · rw [HTK.out,List.map_append]
          exact HXR.out.snoc (by rw [List.length_map,HKL.out];exact HOR.out.1) HTE.out.2
        · exact ((HO9.out.alloc _).mono (fun _ h=>h.elim)).trans HO10.out |>.old (fun g hg=>Or.inl (HR8.out.lt g hg).1)
    · have t2:decide ((k:Int) < (n:Int))=false:=decide_eq_false (by omega)
      have hkn:k=n:=by omega
      subst hkn
      have hst:l.take k=l:=by rw [HNL.out];exact List.take_length
      rw [hst] at htl htr
      clear HXL HXR
      have HXL:Hid (Txs w (fun b=>b < w.heap.size) (l.map (·.left)) xs):=htl
      have HXR:Hid (Txs w (fun b=>b < w.heap.size) (l.map (·.right)) ys):=htr
      clear howl howr hdj htl htr ho hst
      go_wp2_with fail
      have hkp:Kp w W (fun b=>b < w.heap.size):=Kp.only HO.out (fun _ _ h=>h)
      have hfl:∀ b,b < w.heap.size→b < W.heap.size:=fun b hb=>Nat.lt_of_lt_of_le hb HO.out.size
      have eL:(l.map (·.left)).length=k:=by rw [List.length_map,← HNL.out]
      have eR:(l.map (·.right)).length=k:=by rw [List.length_map,← HNL.out]
      obtain ⟨b1,f1,e1,x1⟩:=Lex.of (es:=l.map (·.left)) HXL.out (by rw [eL];exact HOL.out) hkp hfl (by rw [eL];omega)
      obtain ⟨b2,f2,e2,x2⟩:=Lex.of (es:=l.map (·.right)) HXR.out (by rw [eR];exact HOR.out) hkp hfl (by rw [eR];omega)
      injection e1 with p1 _ p3
      injection e2 with q1 _ q3
      subst p1 p3 q1 q3
      refine bodyPost_ret (v:=.tuple #[.slice aL k cL,.slice aR k cR]) (by simp [results,Tryz.results17]) rfl ⟨aL,cL,aR,cR,rfl,x1,x2,HO.out⟩
end Go.Proofs.YtchaoonefiamdaaGreatDoor
namespace Go.Proofs.YtchaoonefiamdaaGreatDoor
open Go.RowKit Go.Maps
set_option linter.unusedVariables false
set_option linter.unusedSimpArgs false
open Rl (Ex)
set_option maxRecDepth 100000 in
set_option maxHeartbeats 4000000 in
theorem kids_leaf (op s:Int) (a:Option Addr) (c:Nat) (w:World):Calls Tryz.prog 59 #[.agg #[.int .u8 op,.int .u32 s,.slice a 0 c]] w fun e w'=>e=.returned (.slice none 0 0)∧Only (fun _=>False) w w':=by
  go_enter Tryz.func59,Tryz.ntmps59
  go_wp2_with fail
  go_ret
  exact ⟨rfl,(Only.refl _ _).alloc _⟩
def Tlf (w W:World) (op s:Int) (kv:Value):Prop:=W.heap[w.heap.size+1]?=some (.cells #[.int .u8 0,.int .u32 0,.slice none 0 0] 88 (0,0))∧W.heap[w.heap.size+1+1]?=some (.cells #[.int .u8 op,.int .u32 s,kv] 88 (0,0))∧W.heap[w.heap.size+1+1+1]?=some (.cells #[.slice (some ⟨w.heap.size+1+1,0,none⟩) 1 1] 57 (0,0))∧Only (fun _=>False) w W
theorem Tlf.keep {w W Y:World} {op s:Int} {kv:Value} (h:Tlf w W op s kv) (ho:Only (fun _=>False) W Y):Tlf w Y op s kv:=⟨(ho.block _ (Array.getElem?_eq_some_iff.1 h.1).1 (fun h=>h)).trans h.1,(ho.block _ (Array.getElem?_eq_some_iff.1 h.2.1).1 (fun h=>h)).trans h.2.1,(ho.block _ (Array.getElem?_eq_some_iff.1 h.2.2.1).1 (fun h=>h)).trans h.2.2.1,h.2.2.2.trans ho⟩
theorem Tlf.put {w W:World} {op s:Int} {kv:Value} (h:Tlf w W op s kv):Tlf w (W.setCell ⟨w.heap.size+1+1,2,none⟩ (.slice none 0 0)) op s (.slice none 0 0):=⟨(Below.heap_setCell _ _ _ _ (by show w.heap.size+1≠w.heap.size+1+1;omega)).trans h.1,heap_setCell_at h.2.1 _,(Below.heap_setCell _ _ _ _ (by show w.heap.size+1+1+1≠w.heap.size+1+1;omega)).trans h.2.2.1,h.2.2.2.setNew (p:=⟨w.heap.size+1+1,2,none⟩) (by show w.heap.size≤w.heap.size+1+1;omega) _⟩
set_option maxRecDepth 100000 in
set_option maxHeartbeats 4000000 in
theorem turn_leaf (op s:Int) (a:Option Addr) (c:Nat) (w:World):Calls Tryz.prog 37 #[.agg #[.int .u8 op,.int .u32 s,.slice a 0 c]] w fun e w'=>e=.returned (.agg #[.int .u8 op,.int .u32 s,.slice none 0 0])∧Only (fun _=>False) w w':=by
  have A4:Hid _:=alloc4 w (.cells #[.int .u8 op,.int .u32 s,.slice a 0 c] 88) (.cells #[.int .u8 0,.int .u32 0,.slice none 0 0] 88) (.cells #[.int .u8 op,.int .u32 s,.slice a 0 c] 88) (.cells #[.slice (some ⟨w.heap.size+1+1,0,none⟩) 1 1] 57)
  go_enter Tryz.func37,Tryz.ntmps37
  go_wp2_with fail
  go_loopg [4] 1 (fun gh v wr=>∃ (m:Nat) (W:World),W=wr∧gh=m∧m≤1∧v=.slice (some ⟨w.heap.size+1+1+1,0,none⟩) m 1∧Tlf w W op s (if m=1 then .slice a 0 c else .slice none 0 0))
  case atStart=>exact ⟨1,_,rfl,rfl,Nat.le_refl _,rfl,A4.out.2.1,A4.out.2.2.1,A4.out.2.2.2,((((Only.refl _ _).alloc _).alloc _).alloc _).alloc _⟩
  case round =>
    obtain ⟨m,W,hW,hgh,hm,rfl,hT⟩:=hrel
    subst hW
    rcases (show m=0∨m=1 by omega) with rfl | rfl <;> subst hgh
    · replace hT:Tlf w W op s (.slice none 0 0):=hT
      have HT:Hid (Tlf w W op s (.slice none 0 0)):=hT
      have l1:=(Array.getElem?_eq_some_iff.1 hT.1).1
      have l2:=(Array.getElem?_eq_some_iff.1 hT.2.1).1
      have l3:=(Array.getElem?_eq_some_iff.1 hT.2.2.1).1
      have z0:W.cell? ⟨w.heap.size+1+1,0,none⟩=some (.int .u8 op):=cell_blk hT.2.1
      have z1:W.cell? ⟨w.heap.size+1+1,1,none⟩=some (.int .u32 s):=cell_blk hT.2.1
      have z2:W.cell? ⟨w.heap.size+1+1,2,none⟩=some (.slice none 0 0):=cell_blk hT.2.1
      have z3:W.cell? ⟨w.heap.size+1+1+1,0,none⟩=some (.slice (some ⟨w.heap.size+1+1,0,none⟩) 1 1):=cell_blk hT.2.2.1
      have x0:W.cell? ⟨w.heap.size+1,0,none⟩=some (.int .u8 0):=cell_blk hT.1
      have x1:W.cell? ⟨w.heap.size+1,1,none⟩=some (.int .u32 0):=cell_blk hT.1
      have x2:W.cell? ⟨w.heap.size+1,2,none⟩=some (.slice none 0 0):=cell_blk hT.1
      have xf:∀ x,W.frozen? ⟨w.heap.size+1,x,none⟩=false:=fun x=>fz_blk hT.1 x
      clear hT
      go_wp2_with fail
      refine bodyPost_ret (v:=.agg #[.int .u8 op,.int .u32 s,.slice none 0 0]) (results_x rfl _ rfl (heap_setCell_at (heap_setCell_at (heap_setCell_at HT.out.1 _) _) _)) rfl ⟨rfl,?_⟩
      exact (((HT.out.2.2.2.setNew (p:=⟨w.heap.size+1,0,none⟩) (Nat.le_succ _) _).setNew (p:=⟨w.heap.size+1,1,none⟩) (Nat.le_succ _) _).setNew (p:=⟨w.heap.size+1,2,none⟩) (Nat.le_succ _) _)
    · replace hT:Tlf w W op s (.slice a 0 c):=hT
      have HT:Hid (Tlf w W op s (.slice a 0 c)):=hT
      have l1:=(Array.getElem?_eq_some_iff.1 hT.1).1
      have l2:=(Array.getElem?_eq_some_iff.1 hT.2.1).1
      have l3:=(Array.getElem?_eq_some_iff.1 hT.2.2.1).1
      have z0:W.cell? ⟨w.heap.size+1+1,0,none⟩=some (.int .u8 op):=cell_blk hT.2.1
      have z1:W.cell? ⟨w.heap.size+1+1,1,none⟩=some (.int .u32 s):=cell_blk hT.2.1
      have z2:W.cell? ⟨w.heap.size+1+1,2,none⟩=some (.slice a 0 c):=cell_blk hT.2.1
      have z3:W.cell? ⟨w.heap.size+1+1+1,0,none⟩=some (.slice (some ⟨w.heap.size+1+1,0,none⟩) 1 1):=cell_blk hT.2.2.1
      have x0:W.cell? ⟨w.heap.size+1,0,none⟩=some (.int .u8 0):=cell_blk hT.1
      have x1:W.cell? ⟨w.heap.size+1,1,none⟩=some (.int .u32 0):=cell_blk hT.1
      have x2:W.cell? ⟨w.heap.size+1,2,none⟩=some (.slice none 0 0):=cell_blk hT.1
      have xf:∀ x,W.frozen? ⟨w.heap.size+1,x,none⟩=false:=fun x=>fz_blk hT.1 x
      clear hT
      go_wp2_with fail
      go_loopg [4,27] 1 (fun gh v u wr=>∃ (i:Nat) (Y:World),Y=wr∧gh=1 - i∧i≤1∧v=.slice (some ⟨w.heap.size+1+1+1,0,none⟩) 0 1∧u=.int .i64 (i:Int)∧Tlf w Y op s (if i=0 then .slice a 0 c else .slice none 0 0))
      case atStart=>exact ⟨0,_,rfl,rfl,Nat.zero_le _,rfl,rfl,HT.out⟩
      case round =>
        clear z0 z1 z2 z3 x0 x1 x2 xf l1 l2 l3 HT
        obtain ⟨i,Y,hY,hgi,hi,rfl,rfl,hT⟩:=hrel
        subst hY
        rcases (show i=0∨i=1 by omega) with rfl | rfl <;> subst hgi
        · replace hT:Tlf w Y op s (.slice a 0 c):=hT
          have HT:Hid (Tlf w Y op s (.slice a 0 c)):=hT
          have l2:=(Array.getElem?_eq_some_iff.1 hT.2.1).1
          have z0:Y.cell? ⟨w.heap.size+1+1,0,none⟩=some (.int .u8 op):=cell_blk hT.2.1
          have z1:Y.cell? ⟨w.heap.size+1+1,1,none⟩=some (.int .u32 s):=cell_blk hT.2.1
          have z2:Y.cell? ⟨w.heap.size+1+1,2,none⟩=some (.slice a 0 c):=cell_blk hT.2.1
          have zf:∀ x,Y.frozen? ⟨w.heap.size+1+1,x,none⟩=false:=fun x=>fz_blk hT.2.1 x
          clear hT
          go_wp2_with (go_at_call 59;refine (kids_leaf op s a c _).mono ?_;rintro e y2 ⟨rfl,ho2⟩;have HT2:Hid (Tlf w y2 op s (.slice a 0 c)):=HT.out.keep ho2;have u2:y2.cell? ⟨w.heap.size+1+1,2,none⟩=some (.slice a 0 c):=cell_blk HT2.out.2.1;have uf:∀ x,y2.frozen? ⟨w.heap.size+1+1,x,none⟩=false:=(fun x=>fz_blk HT2.out.2.1 x);have u3:(y2.setCell ⟨w.heap.size+1+1,2,none⟩ (.slice none 0 0)).cell? ⟨w.heap.size+1+1,2,none⟩=some (.slice none 0 0):=cell_blk HT2.out.put.2.1;have ul:w.heap.size+1+1 < y2.heap.size:=(Array.getElem?_eq_some_iff.1 HT2.out.2.1).1;clear ho2)
          go_roundg 0
          case measure=>omega
          case rel=>exact ⟨1,_,rfl,rfl,Nat.le_refl _,rfl,rfl,HT2.out.put⟩
        · replace hT:Tlf w Y op s (.slice none 0 0):=hT
          have HT:Hid (Tlf w Y op s (.slice none 0 0)):=hT
          have l2:=(Array.getElem?_eq_some_iff.1 hT.2.1).1
          have z0:Y.cell? ⟨w.heap.size+1+1,0,none⟩=some (.int .u8 op):=cell_blk hT.2.1
          have z1:Y.cell? ⟨w.heap.size+1+1,1,none⟩=some (.int .u32 s):=cell_blk hT.2.1
          have z2:Y.cell? ⟨w.heap.size+1+1,2,none⟩=some (.slice none 0 0):=cell_blk hT.2.1
          have zf:∀ x,Y.frozen? ⟨w.heap.size+1+1,x,none⟩=false:=fun x=>fz_blk hT.2.1 x
          clear hT
          go_wp2_with fail
          go_roundg 0
          case measure=>omega
          case rel=>exact ⟨0,_,rfl,rfl,Nat.zero_le _,rfl,HT.out⟩
end Go.Proofs.YtchaoonefiamdaaGreatDoor
