/- Gl2 Gl3 Gl4 -/
import Derived.Test.YtchaoonefiamdaaGreatDoorZ27
import Derived.Test.YtchaoonefiamdaaGreatDoorZ18
namespace Go.Proofs.YtchaoonefiamdaaGreatDoor
set_option linter.unusedVariables false
set_option linter.unusedSimpArgs false
namespace Au
open Rl (Ex)
theorem OkP.zero {p:Pl} (h:OkP p):∀ q,p.sets.length≤q→p.next q=0:=fun q hq=>(h q).2 hq
theorem Gd.empty (C:List Int) {p:Pl} (h:OkP p):Gd C (fun i j=>i=j) p.sets.length p ⟨true,0,0⟩:=by
  refine ⟨fun q hq=>by simp at hq,fun q hq=>by simp at hq,fun q r hq hh=>by rw [h.zero q hq] at hh;simp at hh,fun i j=>⟨fun e=>Or.inl ⟨rfl,e⟩,?_⟩⟩
  rintro (⟨_,e⟩ | ⟨q,r,f,_⟩)
  · exact e
  · simp at f
theorem Gd.never (C:List Int) {p:Pl} (h:OkP p):Gd C (fun _ _=>False) p.sets.length p ⟨false,0,0⟩:=by
  refine ⟨fun q hq=>by simp at hq,fun q hq=>by simp at hq,fun q r hq hh=>by rw [h.zero q hq] at hh;simp at hh,fun i j=>⟨fun e=>e.elim,?_⟩⟩
  rintro (⟨e,_⟩ | ⟨q,r,f,_⟩)
  · cases e
  · simp at f
theorem Gd.leaf (C:List Int) (set:Int) {p:Pl} (h:OkP p):Gd C (fun i j=>j=i+1∧hit C set i) p.sets.length { p with sets:=p.sets++[set] } ⟨false,2 ^ p.sets.length,2 ^ p.sets.length⟩:=by
  have hb:∀ q,(2 ^ p.sets.length).testBit q=true→q=p.sets.length:=fun q hq=>by
    rw [Nat.testBit_two_pow] at hq
    exact (of_decide_eq_true hq).symm
  have hs:st { p with sets:=p.sets++[set] } p.sets.length=set:=by
    unfold st
    simp
  have hl:(p.sets++[set]).length=p.sets.length+1:=by simp
  refine ⟨fun q hq=>?_,fun q hq=>?_,fun q r hq hh=>?_,fun i j=>⟨?_,?_⟩⟩
  · have:=hb q hq
    show p.sets.length≤q∧q < (p.sets++[set]).length
    omega
  · have:=hb q hq
    show p.sets.length≤q∧q < (p.sets++[set]).length
    omega
  · have hh:(p.next q).testBit r=true:=hh
    rw [h.zero q hq] at hh
    simp at hh
  · rintro ⟨rfl,hh⟩
    have hB:(2 ^ p.sets.length).testBit p.sets.length=true:=by rw [Nat.testBit_two_pow];simp
    exact Or.inr ⟨p.sets.length,p.sets.length,hB,hB,.one (by rw [hs];exact hh)⟩
  · rintro (⟨e,_⟩ | ⟨q,r,f,l,w⟩)
    · cases e
    · have e1:=hb q f
      have e2:=hb r l
      subst e1
      subst e2
      cases w with
      | one hh=>rw [hs] at hh;exact ⟨rfl,hh⟩
      | step w1 h1 h2 =>
        rename_i r0 j0
        have h1:(p.next r0).testBit p.sets.length=true:=h1
        have:=(h r0).1
        rw [Nat.testBit_lt_two_pow this] at h1
        cases h1
theorem node_says (C:List Int):∀ (e:Ex) (p:Pl),OkP p→∀ x p1,node e p=some (x,p1)→Gd C (mt C e) p.sets.length p1 x∧Xt p.sets.length p p1:=by
  intro e
  apply Ex.rec (motive_1:=fun e=>∀ (p:Pl),OkP p→∀ x p1,node e p=some (x,p1)→Gd C (mt C e) p.sets.length p1 x∧Xt p.sets.length p p1)
    (motive_2:=fun es=>(∀ (a:Nat) (M:Nat→Nat→Prop) (o:Nd) (p:Pl),OkP p→OkN p o→a≤p.sets.length→Gd C M a p o→∀ x p1,seqs es o p=some (x,p1)→Gd C (fun i j=>∃ m,M i m∧mts C es m j) a p1 x∧Xt a p p1) ∧
      (∀ (a:Nat) (M:Nat→Nat→Prop) (o:Nd) (p:Pl),OkP p→OkN p o→a≤p.sets.length→Gd C M a p o→∀ x p1,alts es o p=some (x,p1)→Gd C (fun i j=>M i j∨mta C es i j) a p1 x∧Xt a p p1) ∧
      (∀ (p:Pl),OkP p→∀ x p1,one es p=some (x,p1)→Gd C (mt1 C es) p.sets.length p1 x∧Xt p.sets.length p p1))
  · intro op set kids ⟨h1,h2,h3⟩ p hp x p1 h
    have z0:OkN p ⟨true,0,0⟩:=⟨Nat.two_pow_pos _,Nat.two_pow_pos _⟩
    have z1:OkN p ⟨false,0,0⟩:=⟨Nat.two_pow_pos _,Nat.two_pow_pos _⟩
    unfold node at h
    by_cases o1:op=1
    · rw [if_pos o1] at h
      split at h
      · cases h
      · injection h with h
        injection h with hx hp1
        subst hx hp1
        exact ⟨(Gd.leaf C set hp).congr (fun i j=>by simp [mt,o1]),⟨[set],rfl⟩,fun _ _=>rfl⟩
    rw [if_neg o1] at h
    by_cases o2:op=2
    · rw [if_pos o2] at h
      obtain ⟨a,b⟩:=h1 _ _ _ p hp z0 (Nat.le_refl _) (Gd.empty C hp) x p1 h
      exact ⟨a.congr (fun i j=>by simp [mt,o2]),b⟩
    rw [if_neg o2] at h
    by_cases o3:op=3
    · rw [if_pos o3] at h
      obtain ⟨a,b⟩:=h2 _ _ _ p hp z1 (Nat.le_refl _) (Gd.never C hp) x p1 h
      exact ⟨a.congr (fun i j=>by simp [mt,o3]),b⟩
    rw [if_neg o3] at h
    have hch:∀ {y:Nd} {p2:Pl},Gd C (mt1 C kids) p.sets.length p2 y→Xt p.sets.length p p2→Xt p.sets.length p (chain p2 y.last y.first):=fun {y p2} g k=>by
      obtain ⟨S,hS⟩:=k.pre
      refine ⟨⟨S,hS⟩,fun q hq=>?_⟩
      show (if y.last.testBit q=true then p2.next q ||| y.first else p2.next q)=p.next q
      rw [if_neg (fun hh=>by have:=g.la q hh;omega),k.nx q hq]
    by_cases o4:op=4
    · rw [if_pos o4] at h
      cases ho:one kids p with
      | none=>rw [ho] at h;cases h
      | some r =>
        obtain ⟨y,p2⟩:=r
        rw [ho] at h
        obtain ⟨a,b⟩:=h3 p hp y p2 ho
        injection h with h
        injection h with hx hp1
        subst hx hp1
        exact ⟨a.plus.2.congr (fun i j=>by simp [mt,o4]),hch a b⟩
    rw [if_neg o4] at h
    by_cases o5:op=5
    · rw [if_pos o5] at h
      cases ho:one kids p with
      | none=>rw [ho] at h;cases h
      | some r =>
        obtain ⟨y,p2⟩:=r
        rw [ho] at h
        obtain ⟨a,b⟩:=h3 p hp y p2 ho
        injection h with h
        injection h with hx hp1
        subst hx hp1
        exact ⟨a.plus.1.congr (fun i j=>by simp [mt,o5]),hch a b⟩
    rw [if_neg o5] at h
    by_cases o6:op=6
    · rw [if_pos o6] at h
      cases ho:one kids p with
      | none=>rw [ho] at h;cases h
      | some r =>
        obtain ⟨y,p2⟩:=r
        rw [ho] at h
        obtain ⟨a,b⟩:=h3 p hp y p2 ho
        injection h with h
        injection h with hx hp1
        subst hx hp1
        exact ⟨a.opt.congr (fun i j=>by simp [mt,o6]),b⟩
    rw [if_neg o6] at h
    injection h with h
    injection h with hx hp1
    subst hx hp1
    exact ⟨(Gd.empty C hp).congr (fun i j=>by simp [mt,o1,o2,o3,o4,o5,o6]),Xt.refl _ _⟩
  · refine ⟨fun a M o p hp ho ha hg x p1 h=>?_,fun a M o p hp ho ha hg x p1 h=>?_,fun p hp x p1 h=>?_⟩
    · simp only [seqs] at h
      injection h with h
      injection h with hx hp1
      subst hx hp1
      exact ⟨hg.congr (fun i j=>by simp [mts]),Xt.refl _ _⟩
    · simp only [alts] at h
      injection h with h
      injection h with hx hp1
      subst hx hp1
      exact ⟨hg.congr (fun i j=>by simp [mta]),Xt.refl _ _⟩
    · simp only [one] at h
      injection h with h
      injection h with hx hp1
      subst hx hp1
      exact ⟨(Gd.never C hp).congr (fun i j=>by simp [mt1]),Xt.refl _ _⟩
  · intro e es he ⟨h1,h2,h3⟩
    refine ⟨fun a M o p hp ho ha hg x p1 h=>?_,fun a M o p hp ho ha hg x p1 h=>?_,fun p hp x p1 h=>?_⟩
    · simp only [seqs] at h
      cases hn:node e p with
      | none=>rw [hn] at h;cases h
      | some r =>
        obtain ⟨y,p2⟩:=r
        rw [hn] at h
        obtain ⟨c1,c2,c3⟩:=node_ok e p hp y p2 hn
        obtain ⟨g1,g2⟩:=he p hp y p2 hn
        have o2:OkN p2 o:=⟨Nat.lt_of_lt_of_le ho.1 (pow_le c3),Nat.lt_of_lt_of_le ho.2 (pow_le c3)⟩
        have o3:OkN (chain p2 o.last y.first) (seq1 o y):=by
          unfold seq1 OkN
          refine ⟨?_,?_⟩
          · show (if o.none=true then o.first ||| y.first else o.first) < 2 ^ p2.sets.length
            split
            · exact Nat.or_lt_two_pow o2.1 c2.1
            · exact o2.1
          · show (if y.none=true then o.last ||| y.last else y.last) < 2 ^ p2.sets.length
            split
            · exact Nat.or_lt_two_pow o2.2 c2.2
            · exact c2.2
        obtain ⟨s1,s2⟩:=hg.seq ha g1 g2 hp.zero
        obtain ⟨k1,k2⟩:=h1 a _ (seq1 o y) (chain p2 o.last y.first) (c1.chain o2.2 c2.1) o3 (Nat.le_trans ha c3) s1 x p1 h
        refine ⟨k1.congr (fun i j=>?_),s2.trans k2 (Nat.le_refl _)⟩
        simp only [mts]
        constructor
        · rintro ⟨m,⟨n,u,v⟩,t⟩
          exact ⟨n,u,m,v,t⟩
        · rintro ⟨n,u,m,v,t⟩
          exact ⟨m,⟨n,u,v⟩,t⟩
    · simp only [alts] at h
      cases hn:node e p with
      | none=>rw [hn] at h;cases h
      | some r =>
        obtain ⟨y,p2⟩:=r
        rw [hn] at h
        obtain ⟨c1,c2,c3⟩:=node_ok e p hp y p2 hn
        obtain ⟨g1,g2⟩:=he p hp y p2 hn
        have o2:OkN p2 o:=⟨Nat.lt_of_lt_of_le ho.1 (pow_le c3),Nat.lt_of_lt_of_le ho.2 (pow_le c3)⟩
        obtain ⟨k1,k2⟩:=h2 a _ (alt1 o y) p2 c1 ⟨Nat.or_lt_two_pow o2.1 c2.1,Nat.or_lt_two_pow o2.2 c2.2⟩ (Nat.le_trans ha c3) (hg.alt ha g1 g2 hp.zero) x p1 h
        refine ⟨k1.congr (fun i j=>?_),?_⟩
        · simp only [mta]
          rw [or_assoc]
        · obtain ⟨S,hS⟩:=g2.pre
          exact (Xt.mk ⟨S,hS⟩ (fun q hq=>g2.nx q (by omega)):Xt a p p2).trans k2 (Nat.le_refl _)
    · simp only [one] at h
      obtain ⟨k1,k2⟩:=he p hp x p1 h
      exact ⟨k1.congr (fun i j=>by simp [mt1]),k2⟩
end Au
end Go.Proofs.YtchaoonefiamdaaGreatDoor
namespace Go.Proofs.YtchaoonefiamdaaGreatDoor
set_option linter.unusedVariables false
set_option linter.unusedSimpArgs false
namespace Au
open Rl (Ex)
structure Fn1 (C:List Int) (e:Ex) (a b:Nat) (p:Pl) (y:Nd):Prop where
  fi:∀ q,y.first.testBit q=true→a≤q∧q < b
  la:∀ q,y.last.testBit q=true→a≤q∧q < b
  cl:∀ q r,a≤q→q < b→(p.next q).testBit r=true→a≤r∧r < b
  lg:∀ i j,mt C e i j↔Lg C p y i j
theorem all_says (C:List Int):∀ (es:List Ex) (acc:List Nd) (p:Pl),OkP p→∀ nds p1,all es acc p=some (nds,p1) →
    ∃ (ys:List Nd) (A:Nat→Nat),nds=acc++ys∧ys.length=es.length∧OkP p1∧Xt p.sets.length p p1∧A 0=p.sets.length∧A es.length=p1.sets.length∧(∀ r,r < es.length→A r≤A (r+1)) ∧
      ∀ r e,es[r]?=some e→∃ y,ys[r]?=some y∧Fn1 C e (A r) (A (r+1)) p1 y
  | [],acc,p,hp,nds,p1,h=>by
    simp only [all] at h
    injection h with h
    injection h with h1 h2
    subst h1 h2
    exact ⟨[],fun _=>p.sets.length,by simp,rfl,hp,Xt.refl _ _,rfl,rfl,fun r h=>by simp at h,fun r e h=>by simp at h⟩
  | e :: es,acc,p,hp,nds,p1,h=>by
    simp only [all] at h
    cases hn:node e p with
    | none=>rw [hn] at h;cases h
    | some r =>
      obtain ⟨y,p2⟩:=r
      rw [hn] at h
      obtain ⟨c1,c2,c3⟩:=node_ok e p hp y p2 hn
      obtain ⟨g1,g2⟩:=node_says C e p hp y p2 hn
      obtain ⟨ys,A,h1,h2,h3,h4,h5,h6,h7,h8⟩:=all_says C es (acc++[y]) p2 c1 nds p1 h
      obtain ⟨k1,k2⟩:=g1.xt h4 c1.zero
      refine ⟨y :: ys,fun r=>match r with | 0=>p.sets.length | r+1=>A r,by rw [h1];simp,by simp [h2],h3,g2.trans h4 c3,rfl,h6,?_,?_⟩
      · intro r hr
        cases r with
        | zero=>show p.sets.length≤A 0;omega
        | succ r=>exact h7 r (by simpa using hr)
      · intro r e' he'
        cases r with
        | zero =>
          simp only [List.getElem?_cons_zero,Option.some.injEq] at he'
          subst he'
          refine ⟨y,rfl,?_⟩
          show Fn1 C e p.sets.length (A 0) p1 y
          rw [h5]
          exact ⟨g1.fi,g1.la,k2,k1⟩
        | succ r =>
          simp only [List.getElem?_cons_succ] at he' ⊢
          exact h8 r e' he'
theorem mono_A {A:Nat→Nat} {n:Nat} (h:∀ r,r < n→A r≤A (r+1)) {r s:Nat} (hrs:r≤s) (hs:s≤n):A r≤A s:=by
  induction s with
  | zero => obtain rfl : r = 0 := by omega
            exact Nat.le_refl _
  | succ s ih =>
    by_cases e:r=s+1
    · subst e;exact Nat.le_refl _
    · exact Nat.le_trans (ih (by omega) (by omega)) (h s (by omega))
theorem same_A {A:Nat→Nat} {n:Nat} (h:∀ r,r < n→A r≤A (r+1)) {r s q:Nat} (hr:r < n) (hs:s < n) (h1:A r≤q∧q < A (r+1)) (h2:A s≤q∧q < A (s+1)):r=s:=by
  rcases Nat.lt_trichotomy r s with hh | hh | hh
  · have:=mono_A h (show r+1≤s from hh) (by omega);omega
  · exact hh
  · have:=mono_A h (show s+1≤r from hh) (by omega);omega
theorem may_bit (p:Pl) (first s r:Nat):(may p first s).testBit r=true↔first.testBit r=true∨∃ q,q < p.sets.length∧s.testBit q=true∧(p.next q).testBit r=true:=by
  unfold may
  have key:∀ k,((List.range k).foldl (fun m i=>if s.testBit i=true then m ||| p.next i else m) first).testBit r=true↔first.testBit r=true∨∃ q,q < k∧s.testBit q=true∧(p.next q).testBit r=true:=fun k=>by
    induction k with
    | zero=>simp
    | succ k ih =>
      rw [List.range_succ,List.foldl_append]
      simp only [List.foldl_cons,List.foldl_nil]
      split
      · rename_i hk
        rw [Nat.testBit_or,Bool.or_eq_true,ih]
        constructor
        · rintro ((h | ⟨q,a,b⟩) | h)
          · exact Or.inl h
          · exact Or.inr ⟨q,by omega,b⟩
          · exact Or.inr ⟨k,by omega,hk,h⟩
        · rintro (h | ⟨q,a,b,c⟩)
          · exact Or.inl (Or.inl h)
          · by_cases e:q=k
            · subst e;exact Or.inr c
            · exact Or.inl (Or.inr ⟨q,by omega,b,c⟩)
      · rename_i hk
        rw [ih]
        constructor
        · rintro (h | ⟨q,a,b⟩)
          · exact Or.inl h
          · exact Or.inr ⟨q,by omega,b⟩
        · rintro (h | ⟨q,a,b,c⟩)
          · exact Or.inl h
          · by_cases e:q=k
            · subst e;exact absurd b hk
            · exact Or.inr ⟨q,by omega,b,c⟩
  exact key _
theorem by_bit (p:Pl) (c r:Nat):(by' p c).testBit r=true↔r < p.sets.length∧st p r / 2 ^ c % 2=1:=by
  unfold by' st
  rw [fold_bit (fun i=>(p.sets[i]?.getD 0) / 2 ^ c % 2=1) 0 r]
  simp
def okB (l:List Nd) (s r:Nat):Bool:=match l[r]? with
  | some y=>y.none || decide (s &&& y.last≠0)
  | none=>false
theorem okB_iff (l:List Nd) (s r:Nat):okB l s r=true↔∃ y,l[r]?=some y∧(y.none=true∨s &&& y.last≠0):=by
  unfold okB
  cases hx:l[r]? with
  | none=>simp
  | some y=>simp
theorem out_bit (l:List Nd) (s r:Nat):(out l s).testBit r=true↔∃ y,l[r]?=some y∧(y.none=true∨s &&& y.last≠0):=by
  have e:out l s=(List.range l.length).foldl (fun m r=>if okB l s r=true then m ||| 2 ^ r else m) 0:=by
    unfold out
    congr 1
    funext m i
    unfold okB
    cases hx:l[i]? with
    | none=>simp
    | some y=>simp
  rw [e,fold_bit (fun i=>okB l s i=true) 0 r,← okB_iff]
  simp only [Nat.zero_testBit,Bool.false_or,Bool.and_eq_true,decide_eq_true_eq]
  constructor
  · exact fun h=>h.2
  · intro h
    obtain ⟨y,h1,_⟩:=(okB_iff l s r).1 h
    exact ⟨(List.getElem?_eq_some_iff.1 h1).1,h⟩
theorem and_ne {s l:Nat}:s &&& l≠0↔∃ t,s.testBit t=true∧l.testBit t=true:=by
  constructor
  · intro h
    obtain ⟨t,ht⟩:=Nat.exists_testBit_of_ne_zero h
    rw [Nat.testBit_and,Bool.and_eq_true] at ht
    exact ⟨t,ht⟩
  · rintro ⟨t,h1,h2⟩ e
    have:(s &&& l).testBit t=true:=by rw [Nat.testBit_and,h1,h2];rfl
    rw [e] at this
    simp at this
def sset (p:Pl) (F:Nat) (C:List Int):Nat:=C.foldl (fun S c=>may p F S &&& by' p c.toNat) 0
theorem sset_snoc (p:Pl) (F:Nat) (C:List Int) (c:Int):sset p F (C++[c])=may p F (sset p F C) &&& by' p c.toNat:=by
  unfold sset
  rw [List.foldl_append]
  rfl
theorem hit0 (C:List Int) (i:Nat):¬ hit C 0 i:=fun h=>by
  obtain ⟨c,_,_,_,h⟩:=(hit_iff _ _ _).1 h
  simp at h
theorem Pw.rlt {C:List Int} {p:Pl} {q i r j:Nat} (h:Pw C p q i r j):r < p.sets.length:=by
  have key:∀ {r i},hit C (st p r) i→r < p.sets.length:=fun {r i} hh=>Classical.byContradiction fun hn=>by
    have:st p r=0:=by unfold st;rw [List.getElem?_eq_none (by omega)];rfl
    rw [this] at hh
    exact hit0 _ _ hh
  cases h with
  | one hh=>exact key hh
  | step _ _ hh=>exact key hh
theorem hit_app {C:List Int} {c:Int} {set:Int} {i:Nat} (hi:i < C.length):hit (C++[c]) set i↔hit C set i:=by
  rw [hit_iff,hit_iff,List.getElem?_append_left hi]
theorem Pw.app {C:List Int} {c:Int} {p:Pl} {q i r j:Nat} (h:Pw (C++[c]) p q i r j) (hj:j≤C.length):Pw C p q i r j:=by
  induction h with
  | one hh=>exact .one ((hit_app (by omega)).1 hh)
  | step _ h1 h2 ih=>exact .step (ih (by omega)) h1 ((hit_app (by omega)).1 h2)
theorem Pw.app' {C:List Int} {c:Int} {p:Pl} {q i r j:Nat} (h:Pw C p q i r j):Pw (C++[c]) p q i r j:=by
  have key:∀ {s i},hit C s i→hit (C++[c]) s i:=fun {s i} hh=>by
    have hi:i < C.length:=by
      obtain ⟨c,hc,_⟩:=(hit_iff _ _ _).1 hh
      exact (List.getElem?_eq_some_iff.1 hc).1
    exact (hit_app hi).2 hh
  induction h with
  | one hh=>exact .one (key hh)
  | step _ h1 h2 ih=>exact .step ih h1 (key h2)
theorem sset_bit (p:Pl) (F n:Nat) (hn:n≤32):∀ (C:List Int),(∀ c∈C,0≤c∧c < (n:Int))→∀ r,(sset p F C).testBit r=true↔∃ q i,F.testBit q=true∧Pw C p q i r C.length:=by
  intro C
  induction hk:C.length generalizing C with
  | zero =>
    intro hC r
    obtain rfl:C=[]:=List.eq_nil_of_length_eq_zero hk
    constructor
    · intro h;simp [sset] at h
    · rintro ⟨q,i,_,h⟩
      have:=h.lt
      omega
  | succ k ih =>
    intro hC r
    obtain ⟨D,c,rfl⟩:∃ D c,C=D++[c]:=⟨C.dropLast,C.getLast (by intro e;rw [e] at hk;simp at hk),(List.dropLast_concat_getLast _).symm⟩
    have hD:D.length=k:=by simpa using hk
    have hc:=hC c (by simp)
    have hat:(D++[c])[k]?=some c:=by rw [← hD];simp
    have hit1:∀ r,hit (D++[c]) (st p r) k↔st p r / 2 ^ c.toNat % 2=1:=fun r=>by
      rw [hit_iff,hat]
      constructor
      · rintro ⟨c',e,_,_,h⟩
        injection e with e
        subst e
        exact h
      · intro h
        exact ⟨c,rfl,hc.1,by omega,h⟩
    rw [sset_snoc,Nat.testBit_and,Bool.and_eq_true,may_bit,by_bit,← hit1]
    have ih:=ih D hD (fun c h=>hC c (List.mem_append_left _ h))
    constructor
    · rintro ⟨h | ⟨q,h1,h2,h3⟩,h4,h5⟩
      · exact ⟨r,k,h,.one h5⟩
      · obtain ⟨f,i,hf,w⟩:=(ih q).1 h2
        exact ⟨f,i,hf,.step w.app' h3 h5⟩
    · rintro ⟨q,i,hf,w⟩
      have hl:=w.rlt
      cases w with
      | one hh=>exact ⟨Or.inl hf,hl,hh⟩
      | step w1 h1 h2=>exact ⟨Or.inr ⟨_,w1.rlt,(ih _).2 ⟨q,i,hf,w1.app (by omega)⟩,h1⟩,hl,h2⟩
theorem orf_bit (l:List Nd) (m q:Nat):(l.foldl (fun m x=>m ||| x.first) m).testBit q=true↔m.testBit q=true∨∃ x∈l,x.first.testBit q=true:=by
  induction l generalizing m with
  | nil=>simp
  | cons x l ih =>
    rw [List.foldl_cons,ih,Nat.testBit_or,Bool.or_eq_true]
    constructor
    · rintro ((h | h) | ⟨y,a,b⟩)
      · exact Or.inl h
      · exact Or.inr ⟨x,by simp,h⟩
      · exact Or.inr ⟨y,by simp [a],b⟩
    · rintro (h | ⟨y,a,b⟩)
      · exact Or.inl (Or.inl h)
      · rcases List.mem_cons.1 a with rfl | a
        · exact Or.inl (Or.inr b)
        · exact Or.inr ⟨y,a,b⟩
theorem out_says (es:List Ex) (nds:List Nd) (p:Pl) (h:all es [] pl0=some (nds,p)) (n:Nat) (hn:n≤32) (C:List Int) (hC:∀ c∈C,0≤c∧c < (n:Int)) (r:Nat) (e:Ex) (hr:es[r]?=some e) :
    (out nds (sset p (nds.foldl (fun m x=>m ||| x.first) 0) C)).testBit r=true↔∃ i,mt C e i C.length:=by
  have h0:OkP pl0:=fun i=>⟨Nat.two_pow_pos _,fun _=>rfl⟩
  obtain ⟨ys,A,h1,h2,h3,h4,h5,h6,h7,h8⟩:=all_says C es [] pl0 h0 nds p h
  rw [List.nil_append] at h1
  subst h1
  obtain ⟨y,hy,hf⟩:=h8 r e hr
  rw [out_bit]
  have hrl:=(List.getElem?_eq_some_iff.1 hr).1
  constructor
  · rintro ⟨y',hy',ho⟩
    rw [hy] at hy'
    injection hy' with hy'
    subst hy'
    rcases ho with hn' | ho
    · exact ⟨C.length,(hf.lg _ _).2 (Or.inl ⟨hn',rfl⟩)⟩
    · obtain ⟨t,t1,t2⟩:=and_ne.1 ho
      obtain ⟨q,i,q1,q2⟩:=(sset_bit p _ n hn C hC t).1 t1
      rcases (orf_bit _ _ _).1 q1 with q1 | ⟨z,z1,z2⟩
      · simp at q1
      · obtain ⟨s,hs⟩:=List.getElem?_of_mem z1
        have hsl:s < es.length:=by have:=(List.getElem?_eq_some_iff.1 hs).1;omega
        obtain ⟨z',hz',hfz⟩:=h8 s es[s] (List.getElem?_eq_getElem hsl)
        rw [hs] at hz'
        injection hz' with hz'
        subst hz'
        have ht:=(Pw.to (p':=p) (hfz.fi q z2) hfz.cl (fun _ _ _=>rfl) (fun _ _ _ _ hh=>hh) q2).2
        have:=same_A h7 hrl hsl (hf.la t t2) ht
        subst this
        rw [hy] at hs
        injection hs with hs
        subst hs
        exact ⟨i,(hf.lg _ _).2 (Or.inr ⟨q,t,z2,t2,q2⟩)⟩
  · rintro ⟨i,hm⟩
    refine ⟨y,hy,?_⟩
    rcases (hf.lg _ _).1 hm with ⟨hn',_⟩ | ⟨q,t,q1,t1,w⟩
    · exact Or.inl hn'
    · refine Or.inr (and_ne.2 ⟨t,(sset_bit p _ n hn C hC t).2 ⟨q,i,(orf_bit _ _ _).2 (Or.inr ⟨y,List.mem_of_getElem? hy,q1⟩),w⟩,t1⟩)
end Au
end Go.Proofs.YtchaoonefiamdaaGreatDoor
namespace Go.Proofs.YtchaoonefiamdaaGreatDoor
set_option linter.unusedVariables false
set_option linter.unusedSimpArgs false
namespace Au
open Rl (Ex)
theorem ways_says (p:Pl) (m:Nat):∀ (cs found w found1 w1:List Nat),found.length≤300→ways p m cs found w=some (found1,w1) →
    ∃ (ext u:List Nat),found1=found++ext∧found1.length≤300∧w1=w++u∧u.length=cs.length∧∀ (j c:Nat),cs[j]?=some c→∃ t:Nat,u[j]?=some t∧found1[t]?=some (m &&& by' p c)
  | [],found,w,found1,w1,hl,h=>by
    simp only [ways] at h
    injection h with h
    injection h with h1 h2
    subst h1 h2
    exact ⟨[],[],by simp,hl,by simp,rfl,fun j c h=>by simp at h⟩
  | c :: cs,found,w,found1,w1,hl,h=>by
    simp only [ways] at h
    split at h
    · rename_i hm
      obtain ⟨ext,u,h1,h2,h3,h4,h5⟩:=ways_says p m cs found _ found1 w1 hl h
      refine ⟨ext,found.idxOf (m &&& by' p c) :: u,h1,h2,by rw [h3];simp,by simp [h4],?_⟩
      intro j d hj
      cases j with
      | zero =>
        simp only [List.getElem?_cons_zero,Option.some.injEq] at hj
        subst hj
        refine ⟨_,rfl,?_⟩
        have hlt:=List.idxOf_lt_length_of_mem hm
        rw [h1,List.getElem?_append_left hlt,List.getElem?_eq_getElem hlt,List.getElem_idxOf hlt]
      | succ j =>
        simp only [List.getElem?_cons_succ] at hj ⊢
        exact h5 j d hj
    · split at h
      · cases h
      · rename_i hm hl3
        obtain ⟨ext,u,h1,h2,h3,h4,h5⟩:=ways_says p m cs (found++[m &&& by' p c]) _ found1 w1 (by rw [List.length_append];simp;omega) h
        refine ⟨(m &&& by' p c) :: ext,found.length :: u,by rw [h1];simp,h2,by rw [h3];simp,by simp [h4],?_⟩
        intro j d hj
        cases j with
        | zero =>
          simp only [List.getElem?_cons_zero,Option.some.injEq] at hj
          subst hj
          refine ⟨_,rfl,?_⟩
          rw [h1]
          simp
        | succ j =>
          simp only [List.getElem?_cons_succ] at hj ⊢
          exact h5 j d hj
def Okst (p:Pl) (l:List Nd) (F classes:Nat) (Fd:List Nat) (nx:List (List Nat)) (o:List Nat) (n:Nat):Prop :=
  ∃ S w,Fd[n]?=some S∧nx[n]?=some w∧w.length=classes∧o[n]?=some (out l S)∧∀ c,c < classes→∃ t,w[c]?=some t∧Fd[t]?=some (may p F S &&& by' p c)
theorem states_says (p:Pl) (l:List Nd) (F classes:Nat):∀ (f n:Nat) (found:List Nat) (nx:List (List Nat)) (o:List Nat) (nx1:List (List Nat)) (o1:List Nat),f+n=301→found.length≤300→n≤found.length→nx.length=n→o.length=n→(∀ k,k < n→Okst p l F classes found nx o k) →
    states p l F classes f n found nx o=some (nx1,o1)→∃ ext,let Fd:=found++ext;nx1.length=Fd.length∧o1.length=Fd.length∧Fd.length≤300∧∀ k,k < Fd.length→Okst p l F classes Fd nx1 o1 k
  | 0,n,found,nx,o,nx1,o1,hf,hl,hn,h1,h2,hk,h=>by omega
  | f+1,n,found,nx,o,nx1,o1,hf,hl,hn,h1,h2,hk,h=>by
    simp only [states] at h
    cases hs:found[n]? with
    | none =>
      rw [hs] at h
      injection h with h
      injection h with e1 e2
      subst e1 e2
      have:=List.getElem?_eq_none_iff.1 hs
      obtain rfl:n=found.length:=by omega
      exact ⟨[],by simpa using ⟨h1,h2,hl,hk⟩⟩
    | some S =>
      rw [hs] at h
      simp only at h
      cases hw:ways p (may p F S) (List.range classes) found [] with
      | none=>rw [hw] at h;cases h
      | some r =>
        obtain ⟨found1,w⟩:=r
        rw [hw] at h
        simp only at h
        obtain ⟨ext,u,a1,a2,a3,a4,a5⟩:=ways_says p _ _ _ _ _ _ hl hw
        rw [List.nil_append] at a3
        subst a3
        have hnl:n < found.length:=(List.getElem?_eq_some_iff.1 hs).1
        have up:∀ k x,found[k]?=some x→found1[k]?=some x:=fun k x hx=>by
          rw [a1,List.getElem?_append_left (List.getElem?_eq_some_iff.1 hx).1];exact hx
        obtain ⟨ext2,b⟩:=states_says p l F classes f (n+1) found1 (nx++[w]) (o++[out l S]) nx1 o1 (by omega) a2 (by rw [a1,List.length_append];omega) (by simp [h1]) (by simp [h2]) (by
          intro k hkn
          by_cases e:k=n
          · subst e
            refine ⟨S,w,up _ _ hs,by rw [← h1];simp,by rw [a4];simp,by rw [← h2];simp,?_⟩
            intro c hc
            obtain ⟨t,t1,t2⟩:=a5 c c (by rw [List.getElem?_range hc])
            exact ⟨t,t1,t2⟩
          · obtain ⟨S',w',c1,c2,c3,c4,c5⟩:=hk k (by omega)
            refine ⟨S',w',up _ _ c1,?_,c3,?_,?_⟩
            · rw [List.getElem?_append_left (by omega)];exact c2
            · rw [List.getElem?_append_left (by omega)];exact c4
            · intro c hc
              obtain ⟨t,t1,t2⟩:=c5 c hc
              exact ⟨t,t1,up _ _ t2⟩) h
        refine ⟨ext++ext2,?_⟩
        rw [← List.append_assoc,← a1]
        exact b
theorem make_says (es:List Ex) (classes:Int) (nx:List (List Nat)) (o:List Nat) (h:make es classes=.ok (nx,o)) :
    1≤classes∧classes≤24∧es.length≤24∧∃ nds p Fd,all es [] pl0=some (nds,p)∧Fd[0]?=some 0∧nx.length=Fd.length∧o.length=Fd.length∧Fd.length≤300∧∀ k,k < Fd.length→Okst p nds (nds.foldl (fun m x=>m ||| x.first) 0) classes.toNat Fd nx o k:=by
  unfold make at h
  split at h
  · cases h
  · rename_i hc
    cases ha:all es [] pl0 with
    | none=>rw [ha] at h;cases h
    | some r =>
      obtain ⟨nds,p⟩:=r
      rw [ha] at h
      simp only at h
      cases hs:states p nds (nds.foldl (fun m x=>m ||| x.first) 0) classes.toNat 301 0 [0] [] [] with
      | none=>rw [hs] at h;cases h
      | some r =>
        obtain ⟨nx1,o1⟩:=r
        rw [hs] at h
        injection h with h
        injection h with e1 e2
        subst e1 e2
        obtain ⟨ext,a1,a2,a3,a4⟩:=states_says p nds _ _ 301 0 [0] [] [] _ _ rfl (by simp) (by simp) rfl rfl (fun k hk=>absurd hk (Nat.not_lt_zero k)) hs
        exact ⟨by omega,by omega,by omega,nds,p,[0]++ext,rfl,rfl,a1,a2,a3,a4⟩
def runs (nx:List (List Nat)):Nat→List Int→List Nat
  | _,[]=>[]
  | s,c :: cs=>(((nx[s]?.getD [])[c.toNat]?).getD 0) :: runs nx (((nx[s]?.getD [])[c.toNat]?).getD 0) cs
theorem runs_len (nx:List (List Nat)):∀ (C:List Int) (s:Nat),(runs nx s C).length=C.length
  | [],s=>rfl
  | c :: cs,s=>by simp [runs,runs_len nx cs]
theorem runs_says {p:Pl} {l:List Nd} {F classes:Nat} {Fd:List Nat} {nx:List (List Nat)} {o:List Nat} (hk:∀ k,k < Fd.length→Okst p l F classes Fd nx o k):∀ (C D:List Int) (s:Nat),(∀ c∈C,0≤c∧c < (classes:Int))→Fd[s]?=some (sset p F D) →
    ∀ k x,(s :: runs nx s C)[k]?=some x→Fd[x]?=some (sset p F (D++C.take k))
  | [],D,s,hC,hs,k,x,h=>by
    cases k with
    | zero =>
      simp only [List.getElem?_cons_zero,Option.some.injEq] at h
      subst h
      simpa using hs
    | succ k=>simp [runs] at h
  | c :: cs,D,s,hC,hs,k,x,h=>by
    cases k with
    | zero =>
      simp only [List.getElem?_cons_zero,Option.some.injEq] at h
      subst h
      simpa using hs
    | succ k =>
      have hc:=hC c (by simp)
      obtain ⟨S,w,a1,a2,a3,a4,a5⟩:=hk s (List.getElem?_eq_some_iff.1 hs).1
      rw [hs] at a1
      injection a1 with a1
      subst a1
      obtain ⟨t,t1,t2⟩:=a5 c.toNat (by omega)
      have e:(((nx[s]?.getD [])[c.toNat]?).getD 0)=t:=by rw [a2,Option.getD_some,t1,Option.getD_some]
      simp only [runs,e,List.getElem?_cons_succ] at h
      have:=runs_says hk cs (D++[c]) t (fun c h=>hC c (by simp [h])) (by rw [sset_snoc];exact t2) k x h
      rw [this,List.take_succ_cons,List.append_assoc]
      rfl
theorem make_tells (es:List Ex) (classes:Int) (nx:List (List Nat)) (o:List Nat) (h:make es classes=.ok (nx,o)) (C:List Int) (hC:∀ c∈C,0≤c∧c < classes) (k s:Nat) (hs:(0 :: runs nx 0 C)[k]?=some s) :
    s < nx.length∧∃ O,o[s]?=some O∧∀ r e,es[r]?=some e→(O.testBit r=true↔∃ i,mt (C.take k) e i (C.take k).length):=by
  obtain ⟨c1,c2,c3,nds,p,Fd,ha,h0,hn,ho,hl,hk⟩:=make_says es classes nx o h
  have hC':∀ c∈C,0≤c∧c < (classes.toNat:Int):=fun c hc=>by have:=hC c hc;omega
  have hF:=runs_says hk C [] 0 hC' (by rw [h0];rfl) k s hs
  rw [List.nil_append] at hF
  have hsl:=(List.getElem?_eq_some_iff.1 hF).1
  obtain ⟨S,w,a1,a2,a3,a4,a5⟩:=hk s hsl
  rw [hF] at a1
  injection a1 with a1
  subst a1
  refine ⟨by omega,_,a4,fun r e hr=>?_⟩
  exact out_says es nds p ha classes.toNat (by omega) (C.take k) (fun c hc=>hC' c (List.mem_of_mem_take hc)) r e hr
end Au
end Go.Proofs.YtchaoonefiamdaaGreatDoor
