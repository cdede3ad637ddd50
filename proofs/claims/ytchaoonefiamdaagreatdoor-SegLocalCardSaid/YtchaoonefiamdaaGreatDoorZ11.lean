/- State Prt0 Prt1 -/
import Derived.Test.YtchaoonefiamdaaGreatDoorZ10
import Derived.Test.YtchaoonefiamdaaGreatDoorZ04
import Derived.Test.YtchaoonefiamdaaGreatDoorZ05
import Derived.Maps.AppendAt
namespace Go.Proofs.YtchaoonefiamdaaGreatDoor
open Go.RowKit Go.Maps
set_option linter.unusedVariables false
set_option linter.unusedSimpArgs false
theorem step_of_wp {P:Program} {ops:Array Oper} {o:Oper} {a:Act} {w:World} {K:Act→World→Prop} {Q:Exit→Act→World→Prop} {E:Prop} (hg:o.guard=none) (h:Oper.wp P o a w K Q) :
    if Region.wanted o (yielded ops a.tmps)=true then Oper.wp P o a w K Q else E:=by
  have hw:Region.wanted o (yielded ops a.tmps)=true:=by simp [Region.wanted,hg]
  rw [if_pos hw]
  exact h
theorem wp_append_at {P:Program} (w:World) {o:Oper} {a:Act} {K:Act→World→Prop} {Q:Exit→Act→World→Prop} (s x:Operand) (t:TypeId)
    (ho:o.op=.call { callee:=.builtin .append,args:=#[s,x],argTypes:=#[t,t] })
    (base:Nat) (e:TypeId) (i:TypeInfo) (z:Value) (size bytes:Nat) (ht:P.underlying t=some (.slice e)) (hi:P.info? e=some i) (hz:i.zero=some z)
    (hsize:i.size=size) (hby:i.bytes=bytes) (hzs:z.cells.size=size) (hsz:0 < size)
    (v:Value) (n:Nat) (xs:List Value) (hs:a.eval s=v) (hown:w.ownsRow base e size v n xs)
    (ad:Addr) (m c:Nat) (news:List Value) (hx:a.eval x=.slice (some ad) m c) (hl:news.length=m*size) (hnews:∀ j u,news[j]?=some u→w.cell? (ad.add j)=some u) (h1:∀ u∈news,u.oneCell'=true)
    (h63:n+m≤maxLen) (hbytes:(n+m)*bytes≤140737488355328) (hbase:base≤w.heap.size)
    (h:∀ v' w',w'.ownsRow base e size v' (n+m) (xs++news)→w.grownBy w' v.ownBlock→K (a.put o.dst v') w'):o.wp P a w K Q:=by
  obtain ⟨v',w',hr,h2,h3,h4,h5⟩:=run_append_own_at (P:=P) w base t o.type e i z size bytes ht hi hz hsize hby hzs hsz v n xs hown ad m c news hl hnews h1 h63 hbytes hbase
  unfold Oper.wp execOp
  simp only [ho,resolve,invoke,builtin,Sem.run_bind,Sem.run_pure,Result.andThen_ok,List.map_toArray,List.map_cons,List.map_nil,hs,hx,hr]
  exact h v' w' h2 h3
theorem wp_put {P:Program} (w:World) {o:Oper} {a:Act} {K:Act→World→Prop} {Q:Exit→Act→World→Prop} (m x v:Operand) (t:TypeId) (hop:o.op=Op.mapUpdate t m x v)
    (k e:TypeId) (L:Keyed P k) (ht:P.underlying t=some (.map k e)) (R:Value→Option (DataW Unit × List MemPlace)) (b n:Nat) (D:DataW Unit)
    (hm:a.eval m=.map (some b)) (hown:w.ownsMap P k R b n D) (hn:n < maxLen) (key val:Value) (kl:Lit) (hx:a.eval x=key) (hv:a.eval v=val) (hkey:keyOf P k key=some kl)
    (d:DataW Unit) (ps:List MemPlace) (hval:R val=some (d,ps))
    (h:∀ w',w'.ownsMap P k R b (n+1) (D.put kl d)→w.grownBy w' (some b)→K (a.put o.dst undef) w'):o.wp P a w K Q:=by
  obtain ⟨w',hrun,r1,r2⟩:=hown.update L ht hn hkey hval
  unfold Oper.wp
  simp [execOp,hop,hm,hx,hv,hrun,Result.andThen]
  exact h w' r1 r2
def ints (l:List Int):List Value:=l.map (Value.int .i64)
def Rcs (w:World) (F:Nat→Prop):List Rl.Rule→(Nat→Option Value)→Prop
  | [],_=>True
  | r :: rs,c=>(c 0=some (.int .u8 r.does)∧(∃ o s k,c 1=some o∧c 2=some s∧c 3=some k∧Tr w F r.left (.agg #[o,s,k]))∧(∃ o s k,c 4=some o∧c 5=some s∧c 6=some k∧Tr w F r.right (.agg #[o,s,k])))∧Rcs w F rs (fun j=>c (j+7))
theorem Rcs.keepT {w w':World} {F F':Nat→Prop} (hk:∀ b,F b→b < w.heap.size→(∃ cs z,w.heap[b]?=some (.cells cs 88 z))→F' b∧w'.heap[b]?=w.heap[b]?):∀ (rs:List Rl.Rule) (c:Nat→Option Value),Rcs w F rs c→Rcs w' F' rs c
  | [],_,_=>trivial
  | r :: rs,c,⟨⟨h0,⟨o,s,k,h1,h2,h3,h4⟩,⟨o',s',k',h5,h6,h7,h8⟩⟩,h9⟩=>⟨⟨h0,⟨o,s,k,h1,h2,h3,Tr.keepT hk _ _ h4⟩,⟨o',s',k',h5,h6,h7,Tr.keepT hk _ _ h8⟩⟩,Rcs.keepT hk rs _ h9⟩
theorem Rcs.cong {w:World} {F:Nat→Prop}:∀ (rs:List Rl.Rule) {c c':Nat→Option Value},(∀ j,j < 7*rs.length→c j=c' j)→Rcs w F rs c→Rcs w F rs c'
  | [],_,_,_,_=>trivial
  | r :: rs,c,c',hc,h=>by
    simp only [List.length_cons] at hc
    obtain ⟨⟨h0,⟨o,s,k,h1,h2,h3,h4⟩,⟨o',s',k',h5,h6,h7,h8⟩⟩,h9⟩:=h
    exact ⟨⟨(hc 0 (by omega)).symm.trans h0,⟨o,s,k,(hc 1 (by omega)).symm.trans h1,(hc 2 (by omega)).symm.trans h2,(hc 3 (by omega)).symm.trans h3,h4⟩,⟨o',s',k',(hc 4 (by omega)).symm.trans h5,(hc 5 (by omega)).symm.trans h6,(hc 6 (by omega)).symm.trans h7,h8⟩⟩,Rcs.cong rs (fun j hj=>hc (j+7) (by omega)) h9⟩
theorem Rcs.snoc {w:World} {F:Nat→Prop} {r:Rl.Rule} {o s k o' s' k':Value} (hl:Tr w F r.left (.agg #[o,s,k])) (hr:Tr w F r.right (.agg #[o',s',k'])):∀ (rs:List Rl.Rule) (xs:List Value),xs.length=7*rs.length→Rcs w F rs (fun j=>xs[j]?)→Rcs w F (rs++[r]) (fun j=>(xs++[.int .u8 r.does,o,s,k,o',s',k'])[j]?)
  | [],xs,hx,_=>by
    obtain rfl:xs=[]:=List.length_eq_zero_iff.1 (by simpa using hx)
    exact ⟨⟨rfl,⟨o,s,k,rfl,rfl,rfl,hl⟩,⟨o',s',k',rfl,rfl,rfl,hr⟩⟩,trivial⟩
  | q :: rs,xs,hx,h=>by
    obtain ⟨ys,zs,rfl,hy⟩:∃ ys zs,xs=ys++zs∧ys.length=7:=⟨xs.take 7,xs.drop 7,(List.take_append_drop 7 xs).symm,by rw [List.length_take,hx];simp only [List.length_cons];omega⟩
    have hz:zs.length=7*rs.length:=by simp only [List.length_append,List.length_cons] at hx;omega
    obtain ⟨h0,h9⟩:=h
    have e1:∀ j,(ys++zs++[Value.int .u8 r.does,o,s,k,o',s',k'])[j+7]?=(zs++[Value.int .u8 r.does,o,s,k,o',s',k'])[j]?:=fun j=>by
      rw [List.append_assoc,List.getElem?_append_right (by omega),hy,Nat.add_sub_cancel]
    have e2:∀ j,(ys++zs)[j+7]?=zs[j]?:=fun j=>by rw [List.getElem?_append_right (by omega),hy,Nat.add_sub_cancel]
    have e3:∀ j,j < 7→(ys++zs++[Value.int .u8 r.does,o,s,k,o',s',k'])[j]?=(ys++zs)[j]?:=fun j hj=>by
      rw [List.getElem?_append_left (by rw [List.length_append];omega)]
    have ih:=Rcs.snoc hl hr rs zs hz (Rcs.cong rs (fun j _=>e2 j) h9)
    refine ⟨?_,Rcs.cong (rs++[r]) (fun j _=>(e1 j).symm) ih⟩
    obtain ⟨h0,⟨o1,s1,k1,h1,h2,h3,h4⟩,⟨o2,s2,k2,h5,h6,h7,h8⟩⟩:=h0
    exact ⟨(e3 0 (by omega)).trans h0,⟨o1,s1,k1,(e3 1 (by omega)).trans h1,(e3 2 (by omega)).trans h2,(e3 3 (by omega)).trans h3,h4⟩,⟨o2,s2,k2,(e3 4 (by omega)).trans h5,(e3 5 (by omega)).trans h6,(e3 6 (by omega)).trans h7,h8⟩⟩
def Rls (w:World) (B:Nat) (v:Value) (l:List Rl.Rule):Prop:=∃ xs,w.ownsRow B 90 7 v l.length xs∧Rcs w (fun b=>B≤b) l (fun j=>xs[j]?)
structure Stt (w:World) (rb:Nat) (x:Rd) (s:Rl.St):Prop where
  cls:w.ownsRow (rb+1) 9 1 x.vC s.cls.length (strs s.cls)
  trt:w.ownsRow (rb+1) 3 1 x.vT s.cls.length (ints s.treat)
  lst:Rls w (rb+1) x.vL s.list
  mp:Mp w x.mb s.env
  jn:x.j=s.join
  af:x.a=s.after
  pl:x.pl=(s.places:Int)
  op:x.op=0
  mb:x.mb < rb
  c24:s.cls.length≤24
  l24:s.list.length≤24
  p200:s.places≤200
theorem Rls.only {w w':World} {B:Nat} {v:Value} {l:List Rl.Rule} {P:Nat→Prop} (h:Rls w B v l) (ho:Only P w w') (hP:∀ g,B≤g→¬ P g):Rls w' B v l:=by
  obtain ⟨xs,h1,h2⟩:=h
  exact ⟨xs,own_only h1 ho hP,h2.keepT (fun b hb hl _=>⟨hb,ho.block b hl (hP b hb)⟩)⟩
theorem Stt.only {w w':World} {rb:Nat} {x:Rd} {s:Rl.St} (h:Stt w rb x s) (ho:Only (·=rb) w w'):Stt w' rb x s :=
  ⟨own_only h.cls ho (fun g hg=>by omega),own_only h.trt ho (fun g hg=>by omega),h.lst.only ho (fun g hg=>by omega),h.mp.only ho (by have:=h.mb;omega),h.jn,h.af,h.pl,h.op,h.mb,h.c24,h.l24,h.p200⟩
theorem Stt.cx {w:World} {rb:Nat} {x:Rd} {s:Rl.St} (h:Stt w rb x s):Cx s.cls.length rb x s.places 0:=⟨by have:=h.mb;omega,h.pl,h.p200,h.op,by omega,own_form h.cls,h.c24⟩
theorem Stt.withPl {w:World} {rb:Nat} {x:Rd} {s:Rl.St} (h:Stt w rb x s) {p:Nat} (hp:p≤200):Stt w rb (x.withPl p) { s with places:=p }:=⟨h.cls,h.trt,h.lst,h.mp,h.jn,h.af,rfl,h.op,h.mb,h.c24,h.l24,hp⟩
theorem own_grown {w w':World} {base base' e e' size size' n n':Nat} {v v':Value} {xs xs':List Value} (h:w.ownsRow base e size v n xs) (h':w.ownsRow base' e' size' v' n' xs') (hne:e≠e') (hg:w.grownBy w' v'.ownBlock):w'.ownsRow base e size v n xs:=by
  obtain ⟨hl,h | ⟨g,cap,cur,hv,hb,hh,h1⟩⟩:=h
  · exact ⟨hl,Or.inl h⟩
  · refine ⟨hl,Or.inr ⟨g,cap,cur,hv,hb,(hg.block g (Array.getElem?_eq_some_iff.1 hh).1 (fun he=>?_)).trans hh,h1⟩⟩
    obtain ⟨_,⟨hv',_⟩ | ⟨g',cap',cur',hv',_,hh',_⟩⟩:=h'
    · rw [hv'] at he;cases he
    · rw [hv'] at he
      injection he with he
      simp only at he
      subst he
      rw [hh] at hh'
      injection hh' with hh'
      injection hh' with _ h2
      exact hne h2
theorem Rls.grown {w w':World} {B base' e' size' n':Nat} {v v':Value} {l:List Rl.Rule} {xs':List Value} (h:Rls w B v l) (h':w.ownsRow base' e' size' v' n' xs') (h52:90≠e') (h50:88≠e') (hg:w.grownBy w' v'.ownBlock):Rls w' B v l:=by
  obtain ⟨xs,h1,h2⟩:=h
  refine ⟨xs,own_grown h1 h' h52 hg,h2.keepT (fun b hb hl hc=>⟨hb,hg.block b hl (fun he=>?_)⟩)⟩
  obtain ⟨cs,z,hc⟩:=hc
  obtain ⟨_,⟨hv',_⟩ | ⟨g',cap',cur',hv',_,hh',_⟩⟩:=h'
  · rw [hv'] at he;cases he
  · rw [hv'] at he
    injection he with he
    simp only at he
    subst he
    rw [hc] at hh'
    injection hh' with hh'
    injection hh' with _ h2
    exact h50 h2
def Lo (rb mb:Nat) (b:Nat):Prop:=b=mb∨rb≤b
def Fr (rb mb:Nat) (w w':World):Prop:=Only (Lo rb mb) w w'∧∀ b es cl,w.heap[b]?=some (.map es cl)→b≠mb→w'.heap[b]?=w.heap[b]?
theorem Fr.trans {rb mb:Nat} {a b c:World} (h:Fr rb mb a b) (k:Fr rb mb b c):Fr rb mb a c :=
  ⟨h.1.trans k.1,fun g es cl hg hn=>(k.2 g es cl ((h.2 g es cl hg hn).trans hg) hn).trans (h.2 g es cl hg hn)⟩
def Cl (w:World) (g:Nat):Prop:=∃ cs t z,w.heap[g]?=some (.cells cs t z)
theorem Cl.no {w:World} {g:Nat} (h:Cl w g) {es:Array MapEntry} {cl:Nat} (k:w.heap[g]?=some (.map es cl)):False:=by
  obtain ⟨cs,t,z,h⟩:=h
  rw [h] at k
  cases k
theorem Rdr.cl {w:World} {rb:Nat} {S:ByteArray} {i:Int} {x:Rd} (h:Rdr w rb S i x):Cl w rb:=⟨_,_,_,h⟩
theorem In.cl {w:World} {rb:Nat} {S:ByteArray} {x:Rd} {ts:List Rl.Tk} (h:In w rb S x ts):Cl w rb:=by
  obtain ⟨i,h,_⟩:=h
  exact h.cl
theorem Only.frAt {w w':World} {g rb:Nat} (h:Only (·=g) w w') (hg:rb≤g) (hc:Cl w g) (mb:Nat):Fr rb mb w w' :=
  ⟨h.mono (fun b e=>Or.inr (by omega)),fun b es cl hb _=>h.block b (Array.getElem?_eq_some_iff.1 hb).1 (fun e=>by subst e;exact hc.no hb)⟩
theorem Only.fr {w w':World} {rb:Nat} (h:Only (·=rb) w w') (hc:Cl w rb) (mb:Nat):Fr rb mb w w':=h.frAt (Nat.le_refl _) hc mb
theorem Only.frMb {w w':World} {rb mb:Nat} (h:Only (·=mb) w w'):Fr rb mb w w':=⟨h.mono (fun b e=>Or.inl e),fun b es cl hb hn=>h.block b (Array.getElem?_eq_some_iff.1 hb).1 hn⟩
theorem Only.fr0 {w w':World} (h:Only (fun _=>False) w w') (rb mb:Nat):Fr rb mb w w':=⟨h.mono (fun b e=>e.elim),fun b es cl hb hn=>h.block b (Array.getElem?_eq_some_iff.1 hb).1 (fun e=>e)⟩
theorem Only.frOwn {w w':World} {rb e size n:Nat} {v:Value} {xs:List Value} (h:Only (fun g=>v.ownBlock=some g) w w') (hx:w.ownsRow (rb+1) e size v n xs) (mb:Nat):Fr rb mb w w':=by
  refine ⟨h.mono (fun b hb=>Or.inr (by have:=(hx.lt b hb).1;omega)),fun b es cl hb hn=>h.block b (Array.getElem?_eq_some_iff.1 hb).1 (fun hv=>?_)⟩
  obtain ⟨_,⟨hv',_⟩ | ⟨g',cap',cur',hv',_,hh',_⟩⟩:=hx
  · rw [hv'] at hv;cases hv
  · rw [hv'] at hv
    injection hv with hv
    simp only at hv
    subst hv
    exact Cl.no ⟨_,_,_,hh'⟩ hb
def lineP (rb:Nat) (S:ByteArray) (mb:Nat) (w:World) (F:Rl.R (List Rl.Tk × Rl.St)) (e:Ending) (w':World):Prop :=
  match F with
  | .error f=>e=.panicked (thr f.1 f.2)∧Fr rb mb w w'
  | .ok (ts,s)=>e=.returned (.tuple #[])∧∃ x,x.mb=mb∧In w' rb S x ts∧Stt w' rb x s∧Fr rb mb w w'
theorem bor_range (a b:Int):0≤Rl.bor a b∧Rl.bor a b < 4294967296:=by
  unfold Rl.bor bits
  rw [IntKind.wrap_u32]
  exact ⟨Int.emod_nonneg _ (by omega),Int.emod_lt_of_pos _ (by omega)⟩
theorem names_range {E:Rl.Env}:∀ {ts ts':List Rl.Tk} {a b:Int},Rl.names E ts a=.ok (b,ts')→0≤a∧a < 4294967296→0≤b∧b < 4294967296
  | [],_,_,_,h,_=>by cases h
  | t :: ts,ts',a,b,h,ha=>by
    rw [names_cons] at h
    split at h
    · cases h
    · split at h
      · split at h
        · cases h
        · exact names_range h (bor_range _ _)
      · cases h;exact ha
theorem wf_u32 {a:Int} (h:0≤a∧a < 4294967296):(Lit.int .u32 a).wf=true:=by
  have e1:IntKind.min .u32=0:=by decide
  have e2:IntKind.max .u32=4294967295:=by decide
  have h2:a≤4294967295:=by omega
  simp only [Lit.wf,e1,e2,h.1,h2,decide_true,Bool.and_self]
theorem find_snoc (E:Rl.Env) (s:Rl.Str) (b:Int) (x:Rl.Str) (h:Rl.find E s=none):Rl.find (E++[(s,b)]) x=if s=x then some b else Rl.find E x:=by
  induction E with
  | nil=>rfl
  | cons q E ih =>
    obtain ⟨s',b'⟩:=q
    unfold Rl.find at h
    rw [List.cons_append]
    unfold Rl.find
    by_cases e:s'=s
    · rw [if_pos e] at h;cases h
    · rw [if_neg e] at h
      by_cases e2:s'=x
      · subst e2
        rw [if_pos rfl,if_neg (fun h=>e h.symm),if_pos rfl]
      · rw [if_neg e2,if_neg e2,ih h]
theorem Mp.put {w w':World} {mb:Nat} {E:Rl.Env} {D:DataW Unit} {s:Rl.Str} {b:Int} (hm:IsMap D) (hD:∀ s:Rl.Str,D.atKey (.string s) (.lit (.int .u32 0))=.lit (.int .u32 ((Rl.find E s).getD 0))∧Maps.has D (.string s)=(Rl.find E s).isSome)
    (h:w'.ownsMap Tryz.prog 9 (plainElem Tryz.prog 42) mb (E.length+1) (D.put (.string s) (.lit (.int .u32 b)))) (hf:Rl.find E s=none):Mp w' mb (E++[(s,b)]):=by
  have hk:WideAt.IsKeyLit (Lit.string s):=trivial
  refine ⟨_,by rw [List.length_append];exact h,World.ownsMap.isMap h,fun x=>?_⟩
  rw [find_snoc E s b x hf]
  by_cases e:s=x
  · subst e
    rw [atKey_put_same hm hk,has_put_same hm hk,if_pos rfl]
    exact ⟨rfl,rfl⟩
  · have hne:(Lit.string x)≠(Lit.string s):=fun h=>e (by injection h with h;exact h.symm)
    rw [atKey_put_other hne,has_put_other hne,if_neg e]
    exact hD x
end Go.Proofs.YtchaoonefiamdaaGreatDoor
namespace Go.Proofs.YtchaoonefiamdaaGreatDoor
open Go.RowKit Go.Maps
set_option linter.unusedVariables false
set_option linter.unusedSimpArgs false
open Rl (Ex)
mutual
def Te (w:World) (F:Nat→Prop):Ex→Value→Prop
  | .mk op set kids,v=>∃ (a:Option Addr) (cap:Nat),v=.agg #[.int .u8 op,.int .u32 set,.slice a kids.length cap]∧kids.length≤cap∧kids.length≤maxLen∧0≤set∧set < 4294967296 ∧
      (kids≠[]→∃ b off,a=some ⟨b,off,none⟩∧F b∧Tes w F kids b off)
def Tes (w:World) (F:Nat→Prop):List Ex→Nat→Nat→Prop
  | [],_,_=>True
  | e :: es,b,off=>(∃ o s k,w.cell? ⟨b,off,none⟩=some o∧w.cell? ⟨b,off+1,none⟩=some s∧w.cell? ⟨b,off+2,none⟩=some k∧Te w F e (.agg #[o,s,k]))∧Tes w F es b (off+3)
end
def Kp (w w':World) (F:Nat→Prop):Prop:=∀ b,F b→∀ o v,w.cell? ⟨b,o,none⟩=some v→w'.cell? ⟨b,o,none⟩=some v
theorem Kp.only {w w':World} {F P:Nat→Prop} (h:Only P w w') (hn:∀ b,F b→¬ P b):Kp w w' F:=fun b hb o v hv=>by
  have hl:=World.block_lt_of_cell? w _ hv
  exact (World.cell?_of_block (a:=⟨b,o,none⟩) (h.block b hl (hn b hb))).trans hv
mutual
theorem Te.keep {w w':World} {F F':Nat→Prop} (hk:Kp w w' F) (hF:∀ b,F b→F' b):∀ (e:Ex) (v:Value),Te w F e v→Te w' F' e v
  | .mk op set kids,v,h=>by
    unfold Te at h ⊢
    obtain ⟨a,cap,h1,h2,h3,h4,h5,h6⟩:=h
    refine ⟨a,cap,h1,h2,h3,h4,h5,fun hn=>?_⟩
    obtain ⟨b,off,g1,g2,g3⟩:=h6 hn
    exact ⟨b,off,g1,hF b g2,Tes.keep hk hF kids b off g2 g3⟩
theorem Tes.keep {w w':World} {F F':Nat→Prop} (hk:Kp w w' F) (hF:∀ b,F b→F' b):∀ (es:List Ex) (b off:Nat),F b→Tes w F es b off→Tes w' F' es b off
  | [],_,_,_,_=>by unfold Tes;trivial
  | e :: es,b,off,hb,h=>by
    unfold Tes at h ⊢
    obtain ⟨⟨o,s,k,h0,h1,h2,h3⟩,h4⟩:=h
    exact ⟨⟨o,s,k,hk b hb _ _ h0,hk b hb _ _ h1,hk b hb _ _ h2,Te.keep hk hF e _ h3⟩,Tes.keep hk hF es b (off+3) hb h4⟩
end
def Lf (w:World) (F:Nat→Prop) (es:List Ex) (a:Option Addr) (c:Nat):Prop:=es.length≤c∧es.length≤maxLen∧(es≠[]→∃ b off,a=some ⟨b,off,none⟩∧F b∧Tes w F es b off)
theorem Lf.keep {w w':World} {F F':Nat→Prop} {es:List Ex} {a:Option Addr} {c:Nat} (h:Lf w F es a c) (hk:Kp w w' F) (hF:∀ b,F b→F' b):Lf w' F' es a c:=by
  obtain ⟨h1,h2,h3⟩:=h
  refine ⟨h1,h2,fun hn=>?_⟩
  obtain ⟨b,off,g1,g2,g3⟩:=h3 hn
  exact ⟨b,off,g1,hF b g2,Tes.keep hk hF es b off g2 g3⟩
theorem Lf.nil (w:World) (F:Nat→Prop) (a:Option Addr) (c:Nat):Lf w F [] a c:=⟨Nat.zero_le _,Nat.zero_le _,fun h=>absurd rfl h⟩
theorem Lf.one {w:World} {F:Nat→Prop} {es:List Ex} {a:Option Addr} {c:Nat} (h:Lf w F es a c):Lf w F (es.take 1) a c:=by
  obtain ⟨h1,h2,h3⟩:=h
  refine ⟨by rw [List.length_take];omega,by rw [List.length_take];omega,fun hn=>?_⟩
  cases es with
  | nil=>exact absurd rfl hn
  | cons e es =>
    obtain ⟨b,off,g1,g2,g3⟩:=h3 (by simp)
    refine ⟨b,off,g1,g2,?_⟩
    unfold Tes at g3
    simp only [List.take_succ_cons,List.take_zero]
    unfold Tes
    exact ⟨g3.1,by unfold Tes;trivial⟩
theorem Te.kids {w:World} {F:Nat→Prop} {op set:Int} {kids:List Ex} {v:Value} (h:Te w F (.mk op set kids) v):∃ a cap,v=.agg #[.int .u8 op,.int .u32 set,.slice a kids.length cap]∧0≤set∧set < 4294967296∧Lf w F kids a cap:=by
  unfold Te at h
  obtain ⟨a,cap,h1,h2,h3,h4,h5,h6⟩:=h
  exact ⟨a,cap,h1,h4,h5,h2,h3,h6⟩
def byP (cl:Nat) (p:Au.Pl):Nat→Nat:=fun c=>if c < cl then Au.by' p c else 0
theorem by_snoc (p:Au.Pl) (s:Int) (c:Nat):Au.by' { p with sets:=p.sets++[s] } c=if s / 2 ^ c % 2=1 then Au.by' p c ||| 2 ^ p.sets.length else Au.by' p c:=by
  unfold Au.by'
  simp only [List.length_append,List.length_singleton,List.range_succ,List.foldl_append,List.foldl_cons,List.foldl_nil]
  have hf:∀ (l:List Nat) (m:Nat),(∀ i∈l,i < p.sets.length)→l.foldl (fun m i=>if ((p.sets++[s])[i]?.getD 0) / 2 ^ c % 2=1 then m ||| 2 ^ i else m) m=l.foldl (fun m i=>if (p.sets[i]?.getD 0) / 2 ^ c % 2=1 then m ||| 2 ^ i else m) m:=by
    intro l
    induction l with
    | nil=>intro m _;rfl
    | cons a l ih =>
      intro m h
      simp only [List.foldl_cons]
      rw [List.getElem?_append_left (h a (by simp)),ih _ (fun i hi=>h i (by simp [hi]))]
  rw [hf _ _ (fun i hi=>List.mem_range.1 hi)]
  simp
theorem byP_snoc (cl:Nat) (p:Au.Pl) (s:Int):byk (byP cl p) s p.sets.length cl=byP cl { p with sets:=p.sets++[s] }:=funext fun c=>by
  unfold byk byP
  by_cases hc:c < cl
  · rw [if_pos hc,if_pos hc,by_snoc]
    by_cases h:s / 2 ^ c % 2=1
    · rw [if_pos ⟨hc,h⟩,if_pos h]
    · rw [if_neg (fun h2=>h h2.2),if_neg h]
  · rw [if_neg hc,if_neg hc,if_neg (fun h=>hc h.1)]
def Plm (w:World) (g cl:Nat) (p:Au.Pl) (fs:Nat) (vL:Value) (em:Nat):Prop:=Plb w g cl p.sets.length (byP cl p) p.next fs vL em
theorem chn_all (p:Au.Pl) (A N:Nat) (hA:A < 2 ^ p.sets.length):chn p.next A N p.sets.length=(Au.chain p A N).next:=funext fun i=>by
  show (if i < p.sets.length∧A.testBit i=true then p.next i ||| N else p.next i)=if A.testBit i=true then p.next i ||| N else p.next i
  by_cases h:A.testBit i=true
  · have:i < p.sets.length:=by
      apply Classical.byContradiction
      intro hn
      rw [Nat.testBit_lt_two_pow (Nat.lt_of_lt_of_le hA (Nat.pow_le_pow_right (by decide) (by omega)))] at h
      cases h
    rw [if_pos ⟨this,h⟩,if_pos h]
  · rw [if_neg (fun h2=>h h2.2),if_neg h]
theorem lt256 {n x:Nat} (hn:n≤200) (h:x < 2 ^ n):x < 2 ^ 256:=Nat.lt_of_lt_of_le h (Nat.pow_le_pow_right (by decide) (by omega))
def begP (w:World) (F:Nat→Prop) (g cl:Nat) (fs:Nat) (vL:Value) (em:Nat) (R:Option (Au.Fr × Au.Pl)) (e:Ending) (w':World):Prop :=
  match R with
  | none=>e=.returned (.tuple #[.agg (zF 0),.bool false])∧Only (·=g) w w'
  | some (f,p1)=>(∃ a c,e=.returned (.tuple #[fmV f.op a f.left.length c f.nd,.bool true])∧Lf w F f.left a c)∧Plm w' g cl p1 fs vL em∧Only (·=g) w w'
theorem begin_any (F:Nat→Prop) (g cl:Nat) (p:Au.Pl) (fs:Nat) (vL:Value) (em:Nat) (k:Ex) (v:Value) (w:World) (hP:Plm w g cl p fs vL em) (hp:p.sets.length≤200) (hcl:cl≤24) (hk:Te w F k v) :
    Calls Tryz.prog 76 #[.pointer (some ⟨g,0,none⟩),v] w (begP w F g cl fs vL em (Au.begin' k p)):=by
  obtain ⟨op,set,kids⟩:=k
  obtain ⟨a,cap,rfl,hs0,hs1,hL⟩:=hk.kids
  obtain ⟨hl1,hl2,hl3⟩:=hL
  have hP0:∀ w',Only (fun _=>False) w w'→Plm w' g cl p fs vL em∧Only (·=g) w w':=fun w' h=>⟨Plb.only hP h (fun h=>h),h.mono (fun _ h=>h.elim)⟩
  have ha:0 < kids.length→∃ b off,a=some ⟨b,off,none⟩:=fun h=>by
    obtain ⟨b,off,h1,_⟩:=hl3 (List.length_pos_iff.1 h)
    exact ⟨b,off,h1⟩
  unfold Au.begin'
  dsimp only
  by_cases o1:op=1
  · subst o1
    rw [if_pos rfl]
    by_cases hf:p.sets.length=200
    · rw [if_pos hf]
      unfold Plm at hP
      rw [hf] at hP
      refine (begin1full g cl _ _ fs vL em set a _ cap w hP).mono ?_
      rintro e w' ⟨rfl,ho⟩
      exact ⟨rfl,ho.mono (fun _ h=>h.elim)⟩
    · rw [if_neg hf]
      refine (begin1 g cl _ _ _ fs vL em set a _ cap w hP (by omega) hcl hs0 hs1).mono ?_
      rintro e w' ⟨rfl,hp',ho⟩
      refine ⟨⟨none,0,rfl,Lf.nil _ _ _ _⟩,?_,ho⟩
      unfold Plm
      rw [byP_snoc] at hp'
      have e:(p.sets++[set]).length=p.sets.length+1:=by simp
      show Plb w' g cl (p.sets++[set]).length _ _ fs vL em
      rw [e]
      exact hp'
  rw [if_neg o1]
  by_cases o2:op=2
  · subst o2
    rw [if_pos rfl]
    refine (begin2 g set a _ cap w).mono ?_
    rintro e w' ⟨rfl,ho⟩
    exact ⟨⟨a,cap,rfl,hl1,hl2,hl3⟩,hP0 w' ho⟩
  rw [if_neg o2]
  by_cases o3:op=3
  · subst o3
    rw [if_pos rfl]
    refine (begin3 g set a _ cap w).mono ?_
    rintro e w' ⟨rfl,ho⟩
    exact ⟨⟨a,cap,rfl,hl1,hl2,hl3⟩,hP0 w' ho⟩
  rw [if_neg o3]
  have h1:min 1 kids.length=(kids.take 1).length:=by rw [List.length_take]
  by_cases o4:op=4
  · subst o4
    rw [if_pos rfl]
    refine (begin4 g set a _ cap w hl1 hl2 ha).mono ?_
    rintro e w' ⟨rfl,ho⟩
    exact ⟨⟨a,cap,by rw [h1],Lf.one ⟨hl1,hl2,hl3⟩⟩,hP0 w' ho⟩
  rw [if_neg o4]
  by_cases o5:op=5
  · subst o5
    rw [if_pos rfl]
    refine (begin5 g set a _ cap w hl1 hl2 ha).mono ?_
    rintro e w' ⟨rfl,ho⟩
    exact ⟨⟨a,cap,by rw [h1],Lf.one ⟨hl1,hl2,hl3⟩⟩,hP0 w' ho⟩
  rw [if_neg o5]
  by_cases o6:op=6
  · subst o6
    rw [if_pos rfl]
    refine (begin6 g set a _ cap w hl1 hl2 ha).mono ?_
    rintro e w' ⟨rfl,ho⟩
    exact ⟨⟨a,cap,by rw [h1],Lf.one ⟨hl1,hl2,hl3⟩⟩,hP0 w' ho⟩
  rw [if_neg o6]
  refine (beginO g op set a _ cap w (by omega)).mono ?_
  rintro e w' ⟨rfl,ho⟩
  exact ⟨⟨none,0,rfl,Lf.nil _ _ _ _⟩,hP0 w' ho⟩
theorem end_any (g cl:Nat) (p:Au.Pl) (fs:Nat) (vL:Value) (em:Nat) (op:Int) (l:List Ex) (a:Option Addr) (m c:Nat) (x:Au.Nd) (w:World) (hP:Plm w g cl p fs vL em) (hn:p.sets.length≤200) (hx:Au.OkN p x) :
    Calls Tryz.prog 77 #[.pointer (some ⟨g,0,none⟩),fmV op a m c x] w fun e w'=>e=.returned (ptV x)∧Plm w' g cl (Au.fin ⟨op,l,x⟩ p) fs vL em∧Only (·=g) w w':=by
  unfold Au.fin
  by_cases h:op=4∨op=5
  · rw [if_pos h]
    refine (end_link g cl _ _ _ fs vL em op a m c x w hP hn (lt256 hn hx.1) h).mono ?_
    rintro e w' ⟨rfl,hp,ho⟩
    refine ⟨rfl,?_,ho⟩
    rw [chn_all _ _ _ hx.2] at hp
    exact hp
  · rw [if_neg h]
    refine (end_plain g op a m c x w (fun h1=>h (Or.inl h1)) (fun h1=>h (Or.inr h1))).mono ?_
    rintro e w' ⟨rfl,ho⟩
    exact ⟨rfl,Plb.only hP ho (fun h=>h),ho.mono (fun _ h=>h.elim)⟩
theorem tke_any (g cl:Nat) (p:Au.Pl) (fs:Nat) (vL:Value) (em:Nat) (fb fo:Nat) (t:TypeId) (cs:Array Value) (op:Int) (a:Option Addr) (m c:Nat) (y x:Au.Nd) (w:World) (hP:Plm w g cl p fs vL em) (hn:p.sets.length≤200) (hx:Au.OkN p x) (hy:Au.OkN p y) (hF:Fb w fb fo t cs op a m c y) (hgf:fb≠g) :
    Calls Tryz.prog 78 #[.pointer (some ⟨g,0,none⟩),.pointer (some ⟨fb,fo,none⟩),ptV x] w fun e w'=>e=.returned (.tuple #[])∧(∃ cs',Fb w' fb fo t cs' op a m c (Au.tkN op y x)∧Same cs cs' fo)∧Plm w' g cl (Au.tkP op y x p) fs vL em∧Only (fun h=>h=fb∨h=g) w w':=by
  unfold Au.tkN Au.tkP
  by_cases h:op=2
  · subst h
    rw [if_pos rfl,if_pos rfl]
    refine (take_seq g cl _ _ _ fs vL em fb fo t cs a m c y x w hP hn (lt256 hn hx.1) hF hgf).mono ?_
    rintro e w' ⟨rfl,hf,hp,ho⟩
    refine ⟨rfl,hf,?_,ho⟩
    rw [chn_all _ _ _ hy.2] at hp
    exact hp
  · rw [if_neg h,if_neg h]
    refine (take_alt g fb fo t cs op a m c y x w hF h).mono ?_
    rintro e w' ⟨rfl,hf,ho⟩
    exact ⟨rfl,hf,Plb.only hP ho (by intro h;exact hgf h.symm),ho.mono (fun _ h=>Or.inl h)⟩
end Go.Proofs.YtchaoonefiamdaaGreatDoor
namespace Go.Proofs.YtchaoonefiamdaaGreatDoor
open Go.RowKit Go.Maps
set_option linter.unusedVariables false
set_option linter.unusedSimpArgs false
open Rl (Ex)
structure Fm where
  f:Au.Fr
  a:Option Addr
  c:Nat
def fmA (m:Fm):Array Value:=fmC m.f.op m.a m.f.left.length m.c m.f.nd
def flat:List Fm→List Value
  | []=>[]
  | m :: L=>(fmA m).toList++flat L
theorem fmA_size (m:Fm):(fmA m).size=11:=rfl
theorem flat_len:∀ (L:List Fm),(flat L).length=L.length*11
  | []=>rfl
  | m :: L=>by
    rw [flat,List.length_append,flat_len L,Array.length_toList,fmA_size,List.length_cons]
    omega
theorem flat_snoc:∀ (L:List Fm) (m:Fm),flat (L++[m])=flat L++(fmA m).toList
  | [],m=>by simp [flat]
  | x :: L,m=>by rw [List.cons_append,flat,flat_snoc L m,flat,List.append_assoc]
theorem flat_at:∀ (L:List Fm) (i k:Nat) (m:Fm),L[i]?=some m→k < 11→(flat L)[11*i+k]?=(fmA m)[k]?
  | x :: L,0,k,m,h,hk=>by
    injection h with h
    subst h
    rw [flat,Nat.mul_zero,Nat.zero_add,List.getElem?_append_left (by rw [Array.length_toList,fmA_size];exact hk),Array.getElem?_toList]
  | x :: L,i+1,k,m,h,hk=>by
    rw [flat,List.getElem?_append_right (by rw [Array.length_toList,fmA_size];omega),Array.length_toList,fmA_size,show 11*(i+1)+k - 11=11*i+k by omega]
    exact flat_at L i k m (by simpa using h) hk
def Opn (w:World) (base ob cap:Nat) (cur:Array Value) (L:List Fm):Prop:=base≤ob∧w.heap[ob]?=some (.cells cur 144 (0,0))∧L.length≤cap∧cap≤maxLen∧cur.size=cap*11∧∀ i m,L[i]?=some m→HasF cur (11*i) m.f.op m.a m.f.left.length m.c m.f.nd
theorem Opn.row {w:World} {base ob cap:Nat} {cur:Array Value} {L:List Fm} (h:Opn w base ob cap cur L):w.ownsRow base 144 11 (.slice (some ⟨ob,0,none⟩) L.length cap) L.length (flat L):=by
  obtain ⟨h1,h2,h3,h4,h5,h6⟩:=h
  refine ⟨flat_len L,Or.inr ⟨ob,cap,cur,rfl,h1,h2,h3,h4,h5,?_⟩⟩
  apply List.ext_getElem?
  intro j
  rw [List.getElem?_take]
  by_cases hj:j < L.length*11
  · rw [if_pos hj]
    have hi:j / 11 < L.length:=by omega
    have e:j=11*(j / 11)+j % 11:=by omega
    have hm:L[j / 11]?=some L[j / 11]:=List.getElem?_eq_getElem hi
    rw [e,flat_at L _ _ _ hm (by omega),Array.getElem?_toList]
    exact h6 _ _ hm (j % 11) (by omega)
  · rw [if_neg hj,List.getElem?_eq_none (by rw [flat_len];omega)]
theorem Opn.of_row {w:World} {base:Nat} {v:Value} {L:List Fm} (h:w.ownsRow base 144 11 v L.length (flat L)) (hL:0 < L.length):∃ ob cap cur,v=.slice (some ⟨ob,0,none⟩) L.length cap∧Opn w base ob cap cur L:=by
  obtain ⟨_,⟨_,h0⟩ | ⟨g,cap,cur,rfl,h1,h2,h3,h4,h5,h6⟩⟩:=h
  · omega
  · refine ⟨g,cap,cur,rfl,h1,h2,h3,h4,h5,fun i m hm k hk=>?_⟩
    have hi:=(List.getElem?_eq_some_iff.1 hm).1
    have:(cur.toList.take (L.length*11))[11*i+k]?=(fmA m)[k]?:=by rw [h6];exact flat_at L i k m hm hk
    rw [List.getElem?_take,if_pos (by omega),Array.getElem?_toList] at this
    exact this
theorem Opn.lt {w:World} {base ob cap:Nat} {cur:Array Value} {L:List Fm} (h:Opn w base ob cap cur L):ob < w.heap.size:=(Array.getElem?_eq_some_iff.1 h.2.1).1
theorem Opn.only {w w':World} {base ob cap:Nat} {cur:Array Value} {L:List Fm} {P:Nat→Prop} (h:Opn w base ob cap cur L) (ho:Only P w w') (hn:¬ P ob):Opn w' base ob cap cur L:=⟨h.1,(ho.block ob h.lt hn).trans h.2.1,h.2.2⟩
theorem Opn.fb {w:World} {base ob cap:Nat} {cur:Array Value} {L:List Fm} (h:Opn w base ob cap cur L) {i:Nat} {m:Fm} (hm:L[i]?=some m):Fb w ob (11*i) 144 cur m.f.op m.a m.f.left.length m.c m.f.nd:=⟨h.2.1,h.2.2.2.2.2 i m hm⟩
theorem Opn.set {w w':World} {base ob cap:Nat} {cur cur':Array Value} {L:List Fm} {m m':Fm} (h:Opn w base ob cap cur (L++[m])) (hb:w'.heap[ob]?=some (.cells cur' 144 (0,0))) (hf:HasF cur' (11*L.length) m'.f.op m'.a m'.f.left.length m'.c m'.f.nd) (hs:Same cur cur' (11*L.length)):Opn w' base ob cap cur' (L++[m']):=by
  obtain ⟨h1,h2,h3,h4,h5,h6⟩:=h
  refine ⟨h1,hb,by simpa using h3,h4,by rw [hs.1,h5],fun i x hx=>?_⟩
  by_cases hi:i < L.length
  · rw [List.getElem?_append_left hi] at hx
    have:=h6 i x (by rw [List.getElem?_append_left hi];exact hx)
    intro k hk
    rw [hs.2 (11*i+k) (by omega)]
    exact this k hk
  · have hl:=(List.getElem?_eq_some_iff.1 hx).1
    simp only [List.length_append,List.length_singleton] at hl
    obtain rfl:i=L.length:=by omega
    rw [List.getElem?_append_right (Nat.le_refl _),Nat.sub_self] at hx
    injection hx with hx
    subst hx
    exact hf
theorem Opn.pop {w:World} {base ob cap:Nat} {cur:Array Value} {L:List Fm} {m:Fm} (h:Opn w base ob cap cur (L++[m])):Opn w base ob cap cur L:=by
  obtain ⟨h1,h2,h3,h4,h5,h6⟩:=h
  refine ⟨h1,h2,by simp at h3;omega,h4,h5,fun i x hx=>h6 i x ?_⟩
  rw [List.getElem?_append_left (List.getElem?_eq_some_iff.1 hx).1]
  exact hx
theorem foldl_zip:∀ (l:List Value) (k:Nat) (cs:Array Value),k+l.length≤cs.size→∀ i,((l.zipIdx k).foldl (fun cs p=>cs.setIfInBounds (0+p.2) p.1) cs)[i]?=if k≤i∧i < k+l.length then l[i - k]? else cs[i]?
  | [],k,cs,h,i=>by simp;omega
  | x :: l,k,cs,h,i=>by
    rw [List.zipIdx_cons,List.foldl_cons,foldl_zip l (k+1) _ (by simp at h ⊢;omega) i]
    simp only [List.length_cons] at h ⊢
    by_cases h1:k+1≤i∧i < k+1+l.length
    · rw [if_pos h1,if_pos (by omega),show i - k=(i - (k+1))+1 by omega,List.getElem?_cons_succ]
    · rw [if_neg h1,Array.getElem?_setIfInBounds]
      by_cases h2:k=i
      · subst h2
        simp
        omega
      · rw [if_neg (by omega),if_neg (by omega)]
theorem fill_one {a:Act} {z X:Array Value} {s n:Nat} (hs:s=n) (hX:X.size=n) (hz:z.size=n) (hn:0 < n) {x:Operand} (hx:a.eval x=.agg X:=by rfl) :
    Instr.fill (fun i=>some (i*s,s)) ((Array.range (1*s)).map ((Value.agg z).cells[· % (Value.agg z).cells.size]!)) (#[(0,x)].map fun p=>(p.1,a.eval p.2)).toList=some X:=by
  subst hs
  have e:(#[(0,x)].map fun p:Nat × Operand=>(p.1,a.eval p.2)).toList=[(0,.agg X)]:=by simp [hx]
  rw [e]
  unfold Instr.fill
  simp only
  rw [if_neg (by show ¬ ((decide (X.size≠s) || decide (0*s+X.size > _))=true);rw [hX];simp)]
  unfold Instr.fill
  congr 1
  apply Array.ext_getElem?
  intro i
  have:=foldl_zip X.toList 0 ((Array.range (1*s)).map ((Value.agg z).cells[· % (Value.agg z).cells.size]!)) (by rw [Array.length_toList,hX];simp) i
  rw [Array.length_toList,hX] at this
  show (Array.foldl _ _ X.zipIdx)[i]?=_
  rw [← Array.foldl_toList,Array.toList_zipIdx]
  simp only [Nat.zero_mul]
  refine this.trans ?_
  by_cases hi:i < s
  · rw [if_pos (by omega)]
    simp
  · rw [if_neg (by omega),Array.getElem?_eq_none (by simp;omega),Array.getElem?_eq_none (by rw [hX];omega)]
theorem info136:(Tryz.prog.info? 144).map (fun i=>(i.zero,i.size,i.bytes))=some (some (.agg #[.int .u8 0,.slice none 0 0,.bool false,.int .u64 0,.int .u64 0,.int .u64 0,.int .u64 0,.int .u64 0,.int .u64 0,.int .u64 0,.int .u64 0]),11,104):=by kernel_rfl
theorem Opn.push {w w':World} {base ob cap:Nat} {cur:Array Value} {L:List Fm} {m:Fm} {v:Value} (h:w'.ownsRow base 144 11 v (L.length+1) (flat L++(fmA m).toList)):∃ ob cap cur,v=.slice (some ⟨ob,0,none⟩) (L.length+1) cap∧Opn w' base ob cap cur (L++[m]):=by
  rw [← flat_snoc] at h
  have e:(L++[m]).length=L.length+1:=by simp
  rw [← e] at h ⊢
  exact Opn.of_row h (by omega)
end Go.Proofs.YtchaoonefiamdaaGreatDoor
