/- Mc Md -/
import Derived.Test.YtdlabakleldgaaaGreatDoorZ48
set_option linter.unusedVariables false
set_option linter.unusedSimpArgs false
set_option maxRecDepth 100000
set_option maxHeartbeats 8000000
namespace Go.Proofs.YtdlabakleldgaaaGreatDoor
namespace Rl
open Hd (at' up ex)
def z (x:Str):Tk:=⟨x,0,false⟩
def tz (X:List Str):List Tk:=X.map z
theorem dB (x:Str):(z x).text=x:=rfl
theorem DT (X Y:List Str):tz (X++Y)=tz X++tz Y:=List.map_append
theorem TM:tz []=[]:=rfl
theorem y_ (X:List Str):(tz X).length=X.length:=List.length_map _
def nA (E:Env) (n:Nat):Prop:=∀k,k < n→find E [(65+k).toUInt8]=some (2 ^ k)
theorem nA.get {E:Env} {n:Nat} (h:nA E n) (hn:1≤n) (i:Nat):find E (Hd.name n i)=some (2 ^(i % n)):=h (i % n) (Nat.mod_lt i hn)
theorem qo {n:Nat} (hn:1≤n) (bg:n≤6) (i:Nat):fe (z (Hd.name n i))=true:=by
 have h:=(kS hn bg i).1
 show decide (0 < jR [(65+i % n).toUInt8])=true
 rw [iU,if_pos h]
 rfl
theorem jL {n:Nat} (hn:1≤n) (bg:n≤6) (i:Nat) (c:UInt8) (hc:c.toNat < 65∨70 < c.toNat):Hd.name n i≠[c]:=by
 intro e
 have h:=(kS hn bg i).2
 have:=Nat.mod_lt i hn
 unfold Hd.name at e
 injection e with e _
 rw [e] at h
 omega
theorem Fu {n b:Nat} {x:Str}:∀ {k:Nat},x∈j4 n b k→∃j,x=Hd.name n j
 | 0,h=>by cases h
 | k+1,h=>by
  rw [j4,List.mem_append] at h
  rcases h with h | h
  ·exact Fu h
  ·split at h
   ·exact⟨k,by simpa using h⟩
   ·cases h
def Qr:Bool:=(List.range 6).all fun k=>(List.range (2 ^ k)).all fun a=>decide (gu (a:Int) (2 ^ k)=((a+2 ^ k:Nat):Int))
theorem DU:Qr=true:=by kernel_rfl
theorem O9 {k a:Nat} (hk:k < 6) (ha:a < 2 ^ k):gu (a:Int) (2 ^ k)=((a+2 ^ k:Nat):Int):=by
 have h:=DU
 unfold Qr at h
 rw [List.all_eq_true] at h
 have h:=h k (List.mem_range.2 hk)
 rw [List.all_eq_true] at h
 exact of_decide_eq_true (h a (List.mem_range.2 ha))
theorem O_ (b k:Nat):b % 2 ^(k+1)=b % 2 ^ k+if Hd.bit b k=true then 2 ^ k else 0:=by
 have h:=Nat.mod_mul (x:=b) (a:=2 ^ k) (b:=2)
 rw [Nat.pow_succ,h]
 unfold Hd.bit
 rcases Nat.mod_two_eq_zero_or_one (b / 2 ^ k) with e | e
 ·simp [e]
 ·simp [e]
theorem qp {E:Env} {n:Nat} (hE:nA E n) (hn:1≤n) (bg:n≤6) (b:Nat):∀k,k≤n→∀K:List Tk,names E (tz (j4 n b k)++K) 0=names E K ((b % 2 ^ k:Nat):Int)
 | 0,_,K=>by
  show names E K 0=_
  rw [Nat.pow_zero,Nat.mod_one]
  rfl
 | k+1,hk,K=>by
  rw [j4,DT,List.append_assoc,qp hE hn bg b k (by omega),O_]
  by_cases hb:Hd.bit b k=true
  ·rw [if_pos hb,if_pos hb]
   show names E (z (Hd.name n k)::K) _=_
   have e1:find E (z (Hd.name n k)).text=some (2 ^ k):=by
    have:=hE.get hn k
    rw [Nat.mod_eq_of_lt (by omega:k < n)] at this
    exact this
   rw [names,if_neg (by exact Bool.false_ne_true),if_pos (qo hn bg k),e1]
   show names E K (gu _ _)=_
   rw [O9 (by omega) (Nat.mod_lt _ (Nat.two_pow_pos k))]
  ·rw [if_neg hb,if_neg hb]
   rfl
theorem mr {E:Env} {t:Tk} {K:List Tk} {a:Int} (h:fe t=false) (hb:t.bad=false):names E (t::K) a=.ok (a,t::K):=by
 rw [names,if_neg (by rw [hb];exact Bool.false_ne_true),if_neg (by rw [h];exact Bool.false_ne_true)]
theorem mD {c:UInt8} {t:Tk} {K:List Tk} (hb:t.bad=false) (h:t.text≠[c]):took c (t::K)=.ok (false,t::K):=by
 rw [took,if_neg (by rw [hb];exact Bool.false_ne_true),if_neg h]
theorem Bq {c:UInt8} {K:List Tk}:took c (z [c]::K)=.ok (true,K):=by
 rw [took,if_neg (by exact Bool.false_ne_true),dB,if_pos rfl]
theorem gZ {c:UInt8} {K:List Tk}:want c (z [c]::K)=.ok K:=by
 rw [want,if_neg (by exact Bool.false_ne_true),dB,if_pos rfl]
theorem TN {n:Nat} (hn:1≤n) (bg:n≤6) (b k:Nat) (K:List Tk):took 94 (tz (j4 n b k)++z [93]::K)=.ok (false,tz (j4 n b k)++z [93]::K):=by
 cases h:j4 n b k with
 | nil=>exact mD rfl (by show ([93]:Str)≠[94];decide)
 | cons x X=>
  obtain⟨j,rfl⟩:=Fu (k:=k) (by rw [h];exact List.mem_cons_self)
  exact mD rfl (jL hn bg j 94 (by decide))
def Nr (K:List Tk):Prop:=∃t K',K=t::K'∧t.bad=false∧t.text≠[42]∧t.text≠[43]∧t.text≠[63]
theorem Nr.mk {t:Tk} {K:List Tk} (h0:t.bad=false) (h1:t.text≠[42]) (h2:t.text≠[43]) (h3:t.text≠[63]):Nr (t::K):=⟨t,K,rfl,h0,h1,h2,h3⟩
theorem Br {e:Ex} {K:List Tk} (h:Nr K):often e K=.ok (e,K):=by
 obtain⟨t,K',rfl,h0,h1,h2,h3⟩:=h
 rw [often,if_neg (by rw [h0];exact Bool.false_ne_true),if_neg h1,if_neg h2,if_neg h3]
def IE:Ex→Int
 | .mk o _ _=>o
theorem Pd {l:List Ex} (h0:l≠[]) (h:∀e∈l,IE e≠0):IE (mkSeq l)≠0:=by
 cases l with
 | nil=>exact absurd rfl h0
 | cons e l=>
  cases l with
  | nil=>exact h e List.mem_cons_self
  | cons f l=>exact (by decide:(2:Int)≠0)
theorem L_ {e f:Ex} {l:List Ex}:IE (mO (e::f::l))≠0:=(by decide:(3:Int)≠0)
theorem row_step {E:Env} {nc f d p p1:Nat} {t:Tk} {ts K K2:List Tk} {l:List Ex} {e e2:Ex} (hb:t.bad=false) (hg:sS t=true) (h:thing E nc f d (t::ts) p=.ok (e,K,p1)) (ho:often e K=.ok (e2,K2)):
  row E nc (f+1) d (t::ts) p l=row E nc f d K2 p1 (l++[e2]):=by
 rw [row]
 rw [if_neg (by rw [hb];exact Bool.false_ne_true),if_pos hg,h]
 simp only [ho]
theorem qw {E:Env} {nc f d p:Nat} {t:Tk} {K:List Tk} {l:List Ex} (hb:t.bad=false) (hg:sS t=false):row E nc (f+1) d (t::K) p l=.ok (mkSeq l,t::K,p):=by
 rw [row]
 rw [if_neg (by rw [hb];exact Bool.false_ne_true),if_neg (by rw [hg];exact Bool.false_ne_true)]
theorem DV {E:Env} {n nc:Nat} (hE:nA E n) (hn:1≤n) (bg:n≤6) (i f d p:Nat) (K:List Tk) (hp:p < 200):thing E nc (f+1) d (z (Hd.name n i)::K) p=.ok (.mk 1 (2 ^(i % n)) [],K,p+1):=by
 rw [thing]
 rw [dB,if_neg (jL hn bg i 40 (by decide)),fq,if_neg (by omega),dB,if_neg (jL hn bg i 46 (by decide)),if_neg (jL hn bg i 91 (by decide))]
 rw [hE.get hn i]
theorem Hy {E:Env} {nc:Nat} (f d p:Nat) (K:List Tk) (hp:p < 200):thing E nc (f+1) d (z [46]::K) p=.ok (.mk 1 (whole nc) [],K,p+1):=by
 rw [thing]
 rw [if_neg (by show ([46]:Str)≠[40];decide),fq,if_neg (by omega),dB,if_pos rfl]
theorem H_ {E:Env} {n nc:Nat} (hE:nA E n) (hn:1≤n) (bg:n≤6) (b f d p:Nat) (K:List Tk) (hp:p < 200):thing E nc (f+1) d (z [91]::(tz (j4 n b n)++z [93]::K)) p=.ok (.mk 1 ((b % 2 ^ n:Nat):Int) [],K,p+1):=by
 rw [thing]
 rw [if_neg (by show ([91]:Str)≠[40];decide),fq,if_neg (by omega),if_neg (by show ([91]:Str)≠[46];decide),dB,if_pos rfl,TN hn bg]
 simp only
 rw [qp hE hn bg b n (Nat.le_refl _),mr rfl rfl]
 simp only
 rw [gZ]
 rfl
theorem Ia {E:Env} {n nc:Nat} (hE:nA E n) (hn:1≤n) (bg:n≤6) (b f d p:Nat) (K:List Tk) (hp:p < 200):thing E nc (f+1) d (z [91]::z [94]::(tz (j4 n b n)++z [93]::K)) p=.ok (.mk 1 (without (whole nc) ((b % 2 ^ n:Nat):Int)) [],K,p+1):=by
 rw [thing]
 rw [if_neg (by show ([91]:Str)≠[40];decide),fq,if_neg (by omega),if_neg (by show ([91]:Str)≠[46];decide),dB,if_pos rfl,Bq]
 simp only
 rw [qp hE hn bg b n (Nat.le_refl _),mr rfl rfl]
 simp only
 rw [gZ]
 rfl
theorem uY {E:Env} {nc f d p p1:Nat} {ts K:List Tk} {e:Ex} (hd:d≠16) (h:either E nc f (d+1) ts p=.ok (e,z [41]::K,p1)):thing E nc (f+1) d (z [40]::ts) p=.ok (e,K,p1):=by
 rw [thing]
 rw [dB,if_pos rfl,if_neg hd,h]
 simp only
 rw [gZ]
theorem Pe {n:Nat} (hn:1≤n) (bg:n≤6) (L:List Nat):∀d i,∃x X,xp n L d i=x::X∧sS (z x)=true∧x≠[42]∧x≠[43]∧x≠[63]:=by
 have hname:∀i,∃x X,[Hd.name n i]=x::X∧sS (z x)=true∧x≠[42]∧x≠[43]∧x≠[63]:=fun i=>⟨Hd.name n i,[],rfl,by unfold sS;rw [qo hn bg i];rfl,jL hn bg i 42 (by decide),jL hn bg i 43 (by decide),jL hn bg i 63 (by decide)⟩
 have hs:∀(c:UInt8) (X Y:List Str),Y=[c]::X→sS (z [c])=true→([c]:Str)≠[42]→([c]:Str)≠[43]→([c]:Str)≠[63]→∃x X,Y=x::X∧sS (z x)=true∧x≠[42]∧x≠[43]∧x≠[63]:=fun c X Y e h1 h2 h3 h4=>⟨[c],X,e,h1,h2,h3,h4⟩
 intro d
 induction d with
 | zero=>exact fun i=>hname _
 | succ d ih=>
  intro i
  rw [xp]
  repeat' split
  all_goals first
   | exact hname _
   | exact hs 46 _ _ rfl rfl (by decide) (by decide) (by decide)
   | exact hs 91 _ _ rfl rfl (by decide) (by decide) (by decide)
   | exact hs 40 _ _ rfl rfl (by decide) (by decide) (by decide)
   |(obtain⟨x,X,e,h⟩:=ih (up L i);rw [e];exact⟨x,_,rfl,h⟩)
def Xs (E:Env) (n d:Nat) (X:List Str) (es:List Ex) (q:Nat):Prop:=es≠[]∧(∀e∈es,IE e≠0)∧q≤2 ^ d∧∀(dd p f:Nat) (K:List Tk) (l:List Ex),Nr K→dd+d≤16→p+2 ^ d≤200→4*X.length≤f→∃f',row E n f dd (tz X++K) p l=row E n f' dd K (p+q) (l++es)∧f≤f'+X.length
theorem Xs.one {E:Env} {n d:Nat} {x:Str} {X:List Str} {e:Ex} (hx:sS (z x)=true) (he:IE e≠0) (h:∀(g dd p:Nat) (K:List Tk),p < 200→thing E n (g+1) dd (z x::(tz X++K)) p=.ok (e,K,p+1)):Xs E n d (x::X) [e] 1:=by
 refine⟨by simp,by simpa using he,Nat.two_pow_pos d,fun dd p f K l hK hd hp hf=>?_⟩
 have:=Nat.two_pow_pos d
 rw [List.length_cons] at hf ⊢
 obtain⟨g,rfl⟩:∃g,f=g+1+1:=⟨f - 2,by omega⟩
 exact⟨g+1,row_step rfl hx (h g dd p K (by omega)) (Br hK),by omega⟩
theorem Nr.close (K:List Tk):Nr (z [41]::K):=Nr.mk rfl (by show ([41]:Str)≠[42];decide) (by show ([41]:Str)≠[43];decide) (by show ([41]:Str)≠[63];decide)
theorem Xs.often {E:Env} {n d:Nat} {X:List Str} {es:List Ex} {q:Nat} (h:Xs E n d X es q) (c:UInt8) (op:Int) (hop:op≠0) (ho:∀(e:Ex) (K:List Tk),Rl.often e (z [c]::K)=.ok (.mk op 0 [e],K)):
  Xs E n (d+1) (([[40]]++X)++[[41],[c]]) [.mk op 0 [mkSeq es]] q:=by
 obtain⟨h2,h3,h4,h5⟩:=h
 have hp2:2 ^(d+1)=2*2 ^ d:=by rw [Nat.pow_succ];omega
 refine⟨by simp,by simpa [IE] using hop,by omega,fun dd p f K l hK hd hp hf=>?_⟩
 simp only [List.length_append,List.length_cons,List.length_nil] at hf ⊢
 obtain⟨g,rfl⟩:∃g,f=g+1+1+1:=⟨f - 3,by omega⟩
 obtain⟨f',h1,h6⟩:=h5 (dd+1) p g (z [41]::z [c]::K) [] (Nr.close _) (by omega) (by omega) (by omega)
 obtain⟨Qs,rfl⟩:∃Qs,f'=Qs+1:=⟨f' - 1,by omega⟩
 have hr:row E n g (dd+1) (tz X++z [41]::z [c]::K) p []=.ok (mkSeq es,z [41]::z [c]::K,p+q):=by
  rw [h1,qw rfl rfl,List.nil_append]
 obtain⟨g',rfl⟩:∃g',g=g'+1:=⟨g - 1,by omega⟩
 have he:either E n (g'+1+1) (dd+1) (tz X++z [41]::z [c]::K) p=.ok (mkSeq es,z [41]::z [c]::K,p+q):=by
  rw [either,hr]
  simp only
  rw [alts,mD rfl (by show ([41]:Str)≠[124];decide)]
  rfl
 have ht:=uY (by omega:dd≠16) he
 refine⟨g'+1+1+1,?_,by omega⟩
 have e1:tz (([[40]]++X)++[[41],[c]])++K=z [40]::(tz X++z [41]::z [c]::K):=by
  simp [tz,List.append_assoc]
 rw [e1]
 exact row_step rfl rfl ht (ho _ _)
theorem Xs.either {E:Env} {n d:Nat} {X Y:List Str} {es es2:List Ex} {q q2:Nat} (h:Xs E n d X es q) (k:Xs E n d Y es2 q2):Xs E n (d+1) (((([[40]]++X)++[[124]])++Y)++[[41]]) [mO [mkSeq es,mkSeq es2]] (q+q2):=by
 obtain⟨_,_,h4,h5⟩:=h
 obtain⟨_,_,k4,k5⟩:=k
 have hp2:2 ^(d+1)=2*2 ^ d:=by rw [Nat.pow_succ];omega
 refine⟨by simp,by simpa using L_,by omega,fun dd p f K l hK hd hp hf=>?_⟩
 simp only [List.length_append,List.length_cons,List.length_nil] at hf ⊢
 obtain⟨g,rfl⟩:∃g,f=g+1+1+1:=⟨f - 3,by omega⟩
 have nb:Nr (z [124]::(tz Y++z [41]::K)):=Nr.mk rfl (by show ([124]:Str)≠[42];decide) (by show ([124]:Str)≠[43];decide) (by show ([124]:Str)≠[63];decide)
 obtain⟨f',h1,h6⟩:=h5 (dd+1) p g (z [124]::(tz Y++z [41]::K)) [] nb (by omega) (by omega) (by omega)
 obtain⟨Qs,rfl⟩:∃Qs,f'=Qs+1:=⟨f' - 1,by omega⟩
 obtain⟨g',rfl⟩:∃g',g=g'+1:=⟨g - 1,by omega⟩
 obtain⟨f2,k1,k6⟩:=k5 (dd+1) (p+q) g' (z [41]::K) [] (Nr.close _) (by omega) (by omega) (by omega)
 obtain⟨f3,rfl⟩:∃f3,f2=f3+1:=⟨f2 - 1,by omega⟩
 obtain⟨g2,rfl⟩:∃g2,g'=g2+1:=⟨g' - 1,by omega⟩
 have he:Rl.either E n (g2+1+1+1) (dd+1) (tz X++z [124]::(tz Y++z [41]::K)) p=.ok (mO [mkSeq es,mkSeq es2],z [41]::K,p+q+q2):=by
  rw [Rl.either,h1,qw rfl rfl,List.nil_append]
  simp only
  rw [alts,Bq]
  simp only
  rw [k1,qw rfl rfl,List.nil_append]
  simp only
  rw [alts,mD rfl (by show ([41]:Str)≠[124];decide)]
  rfl
 have ht:=uY (by omega:dd≠16) he
 refine⟨g2+1+1+1+1,?_,by omega⟩
 have e1:tz (((([[40]]++X)++[[124]])++Y)++[[41]])++K=z [40]::(tz X++z [124]::(tz Y++z [41]::K)):=by
  simp [tz,List.append_assoc]
 rw [e1,←Nat.add_assoc]
 exact row_step rfl rfl ht (Br hK)
theorem Xs.then {E:Env} {n d:Nat} {X Y:List Str} {es es2:List Ex} {q q2:Nat} (h:Xs E n d X es q) (k:Xs E n d Y es2 q2) (hY:∀K,Nr (tz Y++K)):Xs E n (d+1) ((X++[])++Y) (es++es2) (q+q2):=by
 obtain⟨h2,h3,h4,h5⟩:=h
 obtain⟨k2,k3,k4,k5⟩:=k
 have hp2:2 ^(d+1)=2*2 ^ d:=by rw [Nat.pow_succ];omega
 refine⟨by simp [h2],?_,by omega,fun dd p f K l hK hd hp hf=>?_⟩
 ·intro e he
  rcases List.mem_append.1 he with he | he
  ·exact h3 e he
  ·exact k3 e he
 ·simp only [List.length_append,List.length_nil] at hf ⊢
  obtain⟨f',h1,h6⟩:=h5 dd p f (tz Y++K) l (hY K) (by omega) (by omega) (by omega)
  obtain⟨f2,k1,k6⟩:=k5 dd (p+q) f' K (l++es) hK (by omega) (by omega) (by omega)
  refine⟨f2,?_,by omega⟩
  have e1:tz ((X++[])++Y)++K=tz X++(tz Y++K):=by simp [tz,List.append_assoc]
  rw [e1,h1,k1,List.append_assoc,Nat.add_assoc]
theorem aaI {E:Env} {n:Nat} (hE:nA E n) (hn:1≤n) (bg:n≤6) (L:List Nat):∀d i,∃es q,Xs E n d (xp n L d i) es q:=by
 have nam:∀(d i:Nat),Xs E n d [Hd.name n i] [.mk 1 (2 ^(i % n)) []] 1:=fun d i=>
  Xs.one (by unfold sS;rw [qo hn bg i];rfl) (by decide:(1:Int)≠0) (fun g dd p K hp=>DV hE hn bg i g dd p K hp)
 intro d
 induction d with
 | zero=>exact fun i=>⟨_,_,nam 0 _⟩
 | succ d ih=>
  intro i
  rw [xp]
  by_cases c4:at' L i % 12=4
  ·rw [if_pos c4]
   exact⟨_,_,Xs.one (x:=[46]) (X:=[]) (e:=.mk 1 (whole n) []) rfl (by decide:(1:Int)≠0) (fun g dd p K hp=>Hy g dd p K hp)⟩
  rw [if_neg c4]
  by_cases c5:at' L i % 12=5
  ·rw [if_pos c5,List.append_assoc]
   refine⟨_,_,Xs.one (x:=[91]) (X:=j4 n (at' L (up L i)) n++[[93]]) (e:=.mk 1 ((at' L (up L i) % 2 ^ n:Nat):Int) []) rfl (by decide:(1:Int)≠0) (fun g dd p K hp=>?_)⟩
   have e1:tz (j4 n (at' L (up L i)) n++[[93]])++K=tz (j4 n (at' L (up L i)) n)++z [93]::K:=by simp [tz,List.append_assoc]
   rw [e1]
   exact H_ hE hn bg _ g dd p K hp
  rw [if_neg c5]
  by_cases c6:at' L i % 12=6
  ·rw [if_pos c6,List.append_assoc]
   refine⟨_,_,Xs.one (x:=[91]) (X:=[94]::(j4 n (at' L (up L i)) n++[[93]])) (e:=.mk 1 (without (whole n) ((at' L (up L i) % 2 ^ n:Nat):Int)) []) rfl (by decide:(1:Int)≠0) (fun g dd p K hp=>?_)⟩
   have e1:tz ([94]::(j4 n (at' L (up L i)) n++[[93]]))++K=z [94]::(tz (j4 n (at' L (up L i)) n)++z [93]::K):=by simp [tz,List.append_assoc]
   rw [e1]
   exact Ia hE hn bg _ g dd p K hp
  rw [if_neg c6]
  obtain⟨es,q,h1⟩:=ih (up L i)
  obtain⟨es2,q2,h2⟩:=ih (ex n L d (up L i)).2
  by_cases c7:at' L i % 12=7
  ·rw [if_pos c7]
   exact⟨_,_,h1.often 42 4 (by decide) (fun e K=>rfl)⟩
  rw [if_neg c7]
  by_cases c8:at' L i % 12=8
  ·rw [if_pos c8]
   exact⟨_,_,h1.often 43 5 (by decide) (fun e K=>rfl)⟩
  rw [if_neg c8]
  by_cases c9:at' L i % 12=9
  ·rw [if_pos c9]
   exact⟨_,_,h1.often 63 6 (by decide) (fun e K=>rfl)⟩
  rw [if_neg c9]
  by_cases c10:at' L i % 12=10
  ·rw [if_pos c10]
   exact⟨_,_,h1.either h2⟩
  rw [if_neg c10]
  by_cases c11:at' L i % 12=11
  ·rw [if_pos c11]
   refine⟨_,_,h1.then h2 (fun K=>?_)⟩
   obtain⟨x,X,e,h1,h2,h3,h4⟩:=Pe hn bg L d (ex n L d (up L i)).2
   rw [e]
   exact Nr.mk (t:=z x) rfl h2 h3 h4
  rw [if_neg c11]
  exact⟨_,_,nam _ _⟩
theorem Bt {E:Env} {n:Nat} (hE:nA E n) (hn:1≤n) (bg:n≤6) (L:List Nat):∃(e:Ex) (q:Nat),q≤8∧(IE e=0↔L.length=0)∧∀(p f:Nat) (t:Tk) (K:List Tk),t.bad=false→sS t=false→t.text≠[124]→Nr (t::K)→p+8≤200→4*(wu n L).length+4≤f→
  either E n f 0 (tz (wu n L)++t::K) p=.ok (e,t::K,p+q):=by
 unfold wu
 by_cases h0:L.length=0
 ·rw [if_pos h0]
  refine⟨.mk 0 0 [],0,by omega,by simp [h0,IE],fun p f t K hb hg TP hK hp hf=>?_⟩
  obtain⟨g,rfl⟩:∃g,f=g+1+1:=⟨f - 2,by omega⟩
  rw [either]
  rw [TM,List.nil_append,qw hb hg]
  simp only
  rw [alts,mD hb TP]
  rfl
 ·rw [if_neg h0]
  obtain⟨es,q,h2,h3,h4,h5⟩:=aaI hE hn bg (L.take 30) 3 0
  refine⟨mkSeq es,q,h4,?_,fun p f t K hb hg TP hK hp hf=>?_⟩
  ·have:=Pd h2 h3
   constructor
   ·intro e;exact absurd e this
   ·intro e;exact absurd e h0
  ·obtain⟨g,rfl⟩:∃g,f=g+1+1:=⟨f - 2,by omega⟩
   obtain⟨f',h1,h6⟩:=h5 0 p (g+1) (t::K) [] hK (by omega) (by omega) (by omega)
   obtain⟨Qs,rfl⟩:∃Qs,f'=Qs+1:=⟨f' - 1,by omega⟩
   rw [either,h1,qw hb hg,List.nil_append]
   simp only
   rw [alts,mD hb TP]
   rfl
end Rl
namespace Rl
open Hd (at' up ex)
def BP (s:St) (X:List Str) (s':St):Prop:=∀(K:List Tk) (f:Nat),X.length+K.length+1≤f→∃f',lines f (tz X++K) s=lines f' K s'∧K.length+1≤f'
theorem BP.app {s s1 s2:St} {X Y:List Str} (h:BP s X s1) (k:BP s1 Y s2):BP s (X++Y) s2:=fun K f hf=>by
 rw [List.length_append] at hf
 obtain⟨f1,e1,h1⟩:=h (tz Y++K) f (by rw [List.length_append,y_];omega)
 rw [List.length_append,y_] at h1
 obtain⟨f2,e2,h2⟩:=k K f1 (by omega)
 exact⟨f2,by rw [DT,List.append_assoc,e1,e2],h2⟩
theorem BP.line {s s':St} {x:Str} {X:List Str} (hx:x≠[]) (h:∀K:List Tk,Rl.line (z x) (tz X++z [59]::K) s=.ok (z [59]::K,s')):BP s ((x::X)++[[59]]) s':=fun K f hf=>by
 simp only [List.length_append,List.length_cons,List.length_nil] at hf
 obtain⟨g,rfl⟩:∃g,f=g+1:=⟨f - 1,by omega⟩
 refine⟨g,?_,by omega⟩
 have e:tz ((x::X)++[[59]])++K=z x::(tz X++z [59]::K):=by simp [tz,List.append_assoc]
 rw [e,lines,if_neg (by exact Bool.false_ne_true),dB,if_neg hx,h K]
 simp only
 rw [gZ]
def cl (n k:Nat):List Str:=(List.range k).map (fun i=>[(65+i).toUInt8])
def kU (k:Nat):St:=⟨(List.range k).map (fun i=>[(65+i).toUInt8]),(List.range k).map (fun (i:Nat)=>(i:Int)),0,0,(List.range k).map (fun (i:Nat)=>([(65+i).toUInt8],((2 ^ i:Nat):Int))),0,[]⟩
theorem rD {f:Nat→Str × Int} {x:Str}:∀ {L:List Nat},(∀i∈L,(f i).1≠x)→find (L.map f) x=none
 | [],_=>rfl
 | i::L,h=>by
  rw [List.map_cons,find,if_neg (h i List.mem_cons_self)]
  exact rD (fun j hj=>h j (List.mem_cons_of_mem _ hj))
theorem Bu {x:Str}:∀ {A B:Env},find A x=none→find (A++B) x=find B x
 | [],_,_=>rfl
 |(s,b)::A,B,h=>by
  rw [find] at h
  split at h
  ·cases h
  ·rename_i hs
   rw [List.cons_append,find,if_neg hs]
   exact Bu h
theorem xC {x:Str} {v:Int}:∀ {A B:Env},find A x=some v→find (A++B) x=some v
 | [],_,h=>by cases h
 |(s,b)::A,B,h=>by
  rw [find] at h
  rw [List.cons_append,find]
  split at h
  ·rename_i hs;rw [if_pos hs];exact h
  ·rename_i hs
   rw [if_neg hs]
   exact xC h
theorem za {i j:Nat} (hi:i < 6) (hj:j < 6) (h:i≠j):(65+i).toUInt8≠(65+j).toUInt8:=by
 intro e
 have h1:=(kS (n:=6) (by omega) (by omega) i).2
 have h2:=(kS (n:=6) (by omega) (by omega) j).2
 rw [Nat.mod_eq_of_lt hi] at h1
 rw [Nat.mod_eq_of_lt hj] at h2
 rw [e] at h1
 omega
theorem Bv (k:Nat):kU (k+1)=addClass (kU k) [(65+k).toUInt8]:=by
 unfold kU addClass
 simp [List.range_succ]
theorem zb {n:Nat} (bg:n≤6):∀k,k≤n→nA (kU k).env k
 | 0,_=>fun j hj=>absurd hj (Nat.not_lt_zero _)
 | k+1,hk=>by
  intro j hj
  rw [Bv]
  show find ((kU k).env++_) _=_
  by_cases e:j=k
  ·subst e
   have hnone:find (kU j).env [(65+j).toUInt8]=none:=rD (fun i hi=>by
    have:=List.mem_range.1 hi
    intro e
    simp only [List.cons.injEq,and_true] at e
    exact za (by omega) (by omega) (by omega:i≠j) e)
   rw [Bu hnone]
   unfold find
   rw [if_pos rfl]
   unfold kU
   simp
  ·exact xC (zb bg k (by omega) j (by omega))
theorem Ma {n:Nat} (bg:n≤6) {k:Nat} (hk:k < n):find (kU k).env [(65+k).toUInt8]=none:=rD (fun i hi=>by
 have:=List.mem_range.1 hi
 intro e
 simp only [List.cons.injEq,and_true] at e
 exact za (by omega) (by omega) (by omega:i≠k) e)
theorem DW {n k:Nat} (hk:k < n):Hd.name n k=[(65+k).toUInt8]:=by
 unfold Hd.name
 rw [Nat.mod_eq_of_lt hk]
theorem TQ:∀k,k < 6→Hd.bit 255 k=true:=by decide
theorem xD {n:Nat} (hn:1≤n) (bg:n≤6):∀k,k≤n→∀K:List Tk,classes (tz (j4 n 255 k)++K) st0=classes K (kU k)
 | 0,_,K=>rfl
 | k+1,hk,K=>by
  rw [j4,if_pos (TQ k (by omega)),DT,List.append_assoc,xD hn bg k (by omega)]
  show classes (z (Hd.name n k)::K) (kU k)=_
  rw [classes,if_neg (by exact Bool.false_ne_true),if_pos (qo hn bg k),dB,DW (by omega),Ma bg (by omega),Bv]
  rw [if_neg (by exact Bool.false_ne_true),if_neg]
  unfold kU
  simp only [List.length_map,List.length_range]
  omega
theorem Fv {n:Nat} (hn:1≤n) (bg:n≤6):BP st0 (fx n) (kU n):=by
 refine BP.line (x:=j6) (X:=j4 n 255 n) (by decide) (fun K=>?_)
 unfold Rl.line
 rw [dB,if_pos rfl,xD hn bg n (Nat.le_refl _)]
 rw [classes,if_neg (by exact Bool.false_ne_true),if_neg (by exact Bool.false_ne_true)]
def Qt (n jo af:Nat):St:=if jo=0 then kU n else { kU n with join:=gu 0 ((jo % 2 ^ n:Nat):Int),after:=gu 0 ((af % 2 ^ n:Nat):Int)}
theorem Mc {n:Nat} (hn:1≤n) (bg:n≤6) (jo af:Nat):BP st0 (sx n jo af) (Qt n jo af):=by
 unfold sx Qt
 by_cases e:jo=0
 ·rw [if_pos e,if_pos e];exact Fv hn bg
 ·rw [if_neg e,if_neg e]
  have hE:=zb bg n (Nat.le_refl _)
  have h:=(Fv hn bg).app (BP.line (s:=kU n) (s':={ kU n with join:=gu 0 ((jo % 2 ^ n:Nat):Int),after:=gu 0 ((af % 2 ^ n:Nat):Int)}) (x:=j_) (X:=j4 n jo n++([47]::j4 n af n)) (by decide) (fun K=>by
   unfold Rl.line
   rw [dB,if_neg (by decide),if_neg (by decide),if_pos rfl]
   unfold join'
   have e1:tz (j4 n jo n++([47]::j4 n af n))++z [59]::K=tz (j4 n jo n)++z [47]::(tz (j4 n af n)++z [59]::K):=by simp [tz,List.append_assoc]
   rw [e1,qp hE hn bg jo n (Nat.le_refl _),mr rfl rfl]
   simp only
   rw [gZ]
   simp only
   rw [qp hE hn bg af n (Nat.le_refl _),mr rfl rfl]
   rfl))
  have e2:fx n++((j_::(j4 n jo n++([47]::j4 n af n)))++[[59]])=((((fx n++[j_])++j4 n jo n)++[[47]])++j4 n af n)++[[59]]:=by simp [List.append_assoc]
  rw [←e2]
  exact h
def stt (n jo af:Nat) (T:List Nat):Nat→St
 | 0=>Qt n jo af
 | k+1=>{ stt n jo af T k with au:=(stt n jo af T k).au.set k ((at' T k % n:Nat):Int)}
theorem ze (n jo af:Nat) (T:List Nat):∀k,(stt n jo af T k).cls=(kU n).cls∧(stt n jo af T k).env=(kU n).env∧(stt n jo af T k).places=0∧(stt n jo af T k).list=[]∧(stt n jo af T k).join=(Qt n jo af).join∧(stt n jo af T k).after=(Qt n jo af).after
 | 0=>by
  refine⟨?_,?_,?_,?_,rfl,rfl⟩
  all_goals
   rw [stt]
   unfold Qt
   split <;> rfl
 | k+1=>ze n jo af T k
theorem Fw {n:Nat} (hn:1≤n) (bg:n≤6) (i:Nat) (K:List Tk):placeOf (kU n).cls (z (Hd.name n i)::K)=.ok (i % n,K):=by
 unfold placeOf
 rw [name,if_neg (by exact Bool.false_ne_true),if_pos (qo hn bg i)]
 simp only
 rw [dB]
 have hm:=Nat.mod_lt i hn
 have hg:(kU n).cls[i % n]?=some (Hd.name n i):=by
  unfold kU Hd.name
  simp only [List.getElem?_map,List.getElem?_range hm,Option.map_some]
 have hmem:Hd.name n i∈(kU n).cls:=List.mem_of_getElem? hg
 have hidx:(kU n).cls.idxOf (Hd.name n i)=i % n:=by
  have hl:(kU n).cls.length=n:=by unfold kU;simp
  have h1:=List.idxOf_lt_length_of_mem hmem
  rw [hl] at h1
  have h2:(kU n).cls[(kU n).cls.idxOf (Hd.name n i)]?=some (Hd.name n i):=by
   rw [List.getElem?_eq_getElem (by rw [hl];exact h1),List.getElem_idxOf]
  generalize (kU n).cls.idxOf (Hd.name n i)=m at h1 h2
  unfold kU Hd.name at h2
  simp only [List.getElem?_map,List.getElem?_range h1,Option.map_some,Option.some.injEq,List.cons.injEq,and_true] at h2
  by_cases e:m=i % n
  ·exact e
  ·exact absurd h2 (za (by omega) (by omega) e)
 unfold place
 rw [if_pos hmem,hidx]
theorem Fx {n:Nat} (hn:1≤n) (bg:n≤6) (jo af:Nat) (T:List Nat):∀k,k≤n→BP st0 (O6 n T (sx n jo af) k) (stt n jo af T k)
 | 0,_=>Mc hn bg jo af
 | k+1,hk=>by
  have ih:=Fx hn bg jo af T k (by omega)
  obtain⟨hc,_⟩:=ze n jo af T k
  have h:=ih.app (BP.line (s:=stt n jo af T k) (s':=stt n jo af T (k+1)) (x:=fE) (X:=[Hd.name n k,[61],Hd.name n (at' T k)]) (by decide) (fun K=>by
   unfold Rl.line
   rw [dB,if_neg (by decide),if_neg (by decide),if_neg (by decide),if_pos rfl]
   unfold dV
   show (match placeOf (stt n jo af T k).cls (z (Hd.name n k)::z [61]::z (Hd.name n (at' T k))::z [59]::K) with | Except.error f=>Except.error f | Except.ok (k_1,bK)=>_)=_
   rw [hc,Fw hn bg]
   simp only
   rw [gZ]
   simp only
   rw [Fw hn bg,Nat.mod_eq_of_lt (by omega:k < n),stt,hc]))
  rw [O6]
  have e2:O6 n T (sx n jo af) k++((fE::[Hd.name n k,[61],Hd.name n (at' T k)])++[[59]])=((((O6 n T (sx n jo af) k++[fE])++[Hd.name n k])++[[61]])++[Hd.name n (at' T k)])++[[59]]:=by simp [List.append_assoc]
  rw [←e2]
  exact h
def Xw (x:Pr) (r:fD):Prop:=r.does=((x.d % 3:Nat):Int)∧(IE r.left=0↔x.L.length=0)∧(IE r.right=0↔x.R.length=0)
theorem Fy {n:Nat} (hn:1≤n) (bg:n≤6) (rs:List Pr) {s0:St} {X:List Str} (h0:BP st0 X s0) (hc:s0.cls=(kU n).cls) (he:s0.env=(kU n).env) (hp:s0.places=0) (hl:s0.list=[]):
  ∀k,k≤10→k≤rs.length→∃(l:List fD) (p:Nat),BP st0 (L8 n rs X k) { s0 with places:=p,list:=l}∧l.length=k∧p≤16*k∧∀(i:Nat) (x:Pr) (r:fD),rs[i]?=some x→l[i]?=some r→Xw x r
 | 0,_,_=>by
  refine⟨[],0,?_,rfl,Nat.le_refl _,fun i x r _ h=>by simp at h⟩
  have:({ s0 with places:=0,list:=[]}:St)=s0:=by cases s0;simp only at hp hl;subst hp hl;rfl
  rw [this]
  exact h0
 | k+1,h10,hk=>by
  obtain⟨l,p,ih,hlen,hpk,hok⟩:=Fy hn bg rs h0 hc he hp hl k (by omega) (by omega)
  have hkl:k < rs.length:=by omega
  obtain⟨x,hx⟩:∃x,rs[k]?=some x:=⟨_,List.getElem?_eq_getElem hkl⟩
  rw [L8,hx]
  have hE:nA s0.env n:=by rw [he];exact zb bg n (Nat.le_refl _)
  have hcl:s0.cls.length=n:=by rw [hc];unfold kU;simp
  have n47:∀K,Nr (z [47]::K):=fun K=>Nr.mk rfl (by show ([47]:Str)≠[42];decide) (by show ([47]:Str)≠[43];decide) (by show ([47]:Str)≠[63];decide)
  have n59:∀K,Nr (z [59]::K):=fun K=>Nr.mk rfl (by show ([59]:Str)≠[42];decide) (by show ([59]:Str)≠[43];decide) (by show ([59]:Str)≠[63];decide)
  have key:∃(a b:Ex) (p':Nat),p'≤p+16∧(IE a=0↔x.L.length=0)∧(IE b=0↔x.R.length=0)∧∀(K:List Tk) (dd:Int),bV dd 0 (tz (wu n x.L++([47]::wu n x.R))++z [59]::K) { s0 with places:=p,list:=l}=.ok (z [59]::K,{ s0 with places:=p',list:=l++[⟨dd,a,b⟩]}):=by
   obtain⟨a,q,hq,ha,h1⟩:=Bt hE hn bg x.L
   obtain⟨b,q2,hq2,hb,h2⟩:=Bt hE hn bg x.R
   refine⟨a,b,p+q+q2,by omega,ha,hb,fun K dd=>?_⟩
   have e1:tz (wu n x.L++([47]::wu n x.R))++z [59]::K=tz (wu n x.L)++z [47]::(tz (wu n x.R)++z [59]::K):=by simp [tz,List.append_assoc]
   rw [e1]
   unfold bV
   simp only
   rw [if_neg (by omega),hcl,h1 _ _ _ _ rfl rfl (by show ([47]:Str)≠[124];decide) (n47 _) (by omega) (by unfold fuel;rw [List.length_append,y_];omega)]
   simp only
   rw [gZ]
   simp only
   rw [h2 _ _ _ _ rfl rfl (by show ([59]:Str)≠[124];decide) (n59 _) (by omega) (by unfold fuel;rw [List.length_append,y_];omega)]
  obtain⟨a,b,p',hp',ha,hb,hr⟩:=key
  refine⟨l++[⟨((x.d % 3:Nat):Int),a,b⟩],p',?_,by simp [hlen],by omega,?_⟩
  ·have hd:MQ x.d≠[]:=by
    unfold MQ
    repeat' split
    all_goals decide
   have h:=ih.app (BP.line (s:={ s0 with places:=p,list:=l}) (s':={ s0 with places:=p',list:=l++[⟨((x.d % 3:Nat):Int),a,b⟩]}) (x:=MQ x.d) (X:=wu n x.L++([47]::wu n x.R)) hd (fun K=>by
    unfold Rl.line MQ
    rw [dB]
    by_cases d0:x.d % 3=0
    ·rw [if_pos d0,if_neg (by decide),if_neg (by decide),if_neg (by decide),if_neg (by decide),if_pos rfl,d0]
     exact hr K 0
    ·rw [if_neg d0]
     by_cases d1:x.d % 3=1
     ·rw [if_pos d1,if_neg (by decide),if_neg (by decide),if_neg (by decide),if_neg (by decide),if_neg (by decide),if_pos rfl,d1]
      exact hr K 1
     ·rw [if_neg d1,if_neg (by decide),if_neg (by decide),if_neg (by decide),if_neg (by decide),if_neg (by decide),if_neg (by decide),if_pos rfl,show x.d % 3=2 by omega]
      exact hr K 2))
   have e2:L8 n rs X k++((MQ x.d::(wu n x.L++([47]::wu n x.R)))++[[59]])=((((L8 n rs X k++[MQ x.d])++wu n x.L)++[[47]])++wu n x.R)++[[59]]:=by simp [List.append_assoc]
   show BP st0 (((((L8 n rs X k++[MQ x.d])++wu n x.L)++[[47]])++wu n x.R)++[[59]]) _
   rw [←e2]
   exact h
  ·intro i y r hy jP
   by_cases hi:i < k
   ·rw [List.getElem?_append_left (by omega)] at jP
    exact hok i y r hy jP
   ·rw [List.getElem?_append_right (by omega)] at jP
    have hik:i - l.length=0:=by
     have:=(List.getElem?_eq_some_iff.1 jP).1
     simp at this
     omega
    rw [hik] at jP
    obtain rfl:i=k:=by omega
    rw [hx] at hy
    injection hy with hy
    injection jP with jP
    subst hy jP
    exact⟨rfl,ha,hb⟩
theorem zg {n:Nat} (bg:n≤6) (L:List Nat):∀d i,(ex n L d i).1.length+3≤18*2 ^ d
 | 0,i=>by unfold ex;simp [Hd.name]
 | d+1,i=>by
  have a:=zg bg L d (up L i)
  have b:=zg bg L d (ex n L d (up L i)).2
  have c:=Hd.bE n (at' L (up L i)) n
  have p:1≤2 ^ d:=Nat.two_pow_pos d
  have q:2 ^(d+1)=2*2 ^ d:=by rw [Nat.pow_succ];omega
  unfold ex
  repeat' split
  all_goals (simp only [Hd.bA,Hd.name,List.length_cons,List.length_nil];omega)
theorem xE {n:Nat} (bg:n≤6) (L:List Nat):(Hd.expr n L).length≤141:=by
 unfold Hd.expr
 split
 ·simp
 ·have:=zg bg (L.take 30) 3 0
  omega
theorem FB {n:Nat} (bg:n≤6) (rs:List Pr) (t:Str):∀k,(Hd.ru n rs t k).length≤t.length+292*k
 | 0=>Nat.le_refl _
 | k+1=>by
  have ih:=FB bg rs t k
  rw [Hd.ru]
  split
  ·omega
  ·rename_i x hx
   have h1:=xE bg x.L
   have h2:=xE bg x.R
   have h3:=Hd.qi x.d
   simp only [Hd.bA,List.length_cons,List.length_nil]
   omega
theorem xG {n:Nat} (bg:n≤6) (jo af:Nat) (T:List Nat) (rs:List Pr):(Hd.text n jo af T rs).length≤4096:=by
 have h1:=Hd.uT n jo af bg
 have h2:=Hd.rC n T (Hd.second n jo af) (min T.length n)
 have h3:=FB bg rs (Hd.au n T (Hd.second n jo af) (min T.length n)) (min rs.length 10)
 unfold Hd.text
 omega
theorem xH {n:Nat} (jo af:Nat) (T:List Nat):∀k,k≤n→(stt n jo af T k).au.length=n∧∀i,i < n→(stt n jo af T k).au[i]?=some (if i < k then ((at' T i % n:Nat):Int) else (i:Int))
 | 0,_=>by
  have e:(stt n jo af T 0).au=(kU n).au:=by
   rw [stt]
   unfold Qt
   split <;> rfl
  rw [e]
  unfold kU
  refine⟨by simp,fun i hi=>?_⟩
  rw [if_neg (Nat.not_lt_zero _)]
  simp only [List.getElem?_map,List.getElem?_range hi,Option.map_some]
 | k+1,hk=>by
  obtain⟨h1,h2⟩:=xH (n:=n) jo af T k (by omega)
  rw [stt]
  refine⟨by simp [h1],fun i hi=>?_⟩
  show ((stt n jo af T k).au.set k _)[i]?=_
  by_cases e:i=k
  ·subst e
   rw [List.getElem?_set_self (by omega),if_pos (by omega)]
  ·rw [List.getElem?_set_ne (fun h=>e h.symm),h2 i hi]
   by_cases e2:i < k
   ·rw [if_pos e2,if_pos (by omega)]
   ·rw [if_neg e2,if_neg (by omega)]
structure Made (n jo af:Nat) (T:List Nat) (rs:List Pr) (s:St):Prop where
 cls:s.cls.length=n
 au:s.au.length=n
 list:s.list.length=min rs.length 10
 join:jo≠0→s.join=gu 0 ((jo % 2 ^ n:Nat):Int)∧s.after=gu 0 ((af % 2 ^ n:Nat):Int)
 each:∀i,i < n→s.au[i]?=some (if i < T.length then ((at' T i % n:Nat):Int) else (i:Int))
 rule:∀(i:Nat) (x:Pr) (r:fD),rs[i]?=some x→s.list[i]?=some r→Xw x r
theorem TR {n:Nat} (hn:1≤n) (bg:n≤6) (jo af:Nat) (T:List Nat) (rs:List Pr) {ts:List Tk} (h:jg (Hd.text n jo af T rs) 0 ts):∃s,lines (ts.length+1) ts st0=.ok s∧Made n jo af T rs s:=by
 have h1:Pk (Hd.text n jo af T rs) (ts.map key):=Fp h
 have h2:ts.map key=(tx n jo af T rs).map (fun x=>(x,false))++[([],false)]:=h1.one (O8 hn bg jo af T rs)
 have h3:ts.map er=tz (tx n jo af T rs)++[z []]:=by
  have g:ts.map er=(ts.map key).map (fun k=>⟨k.1,0,k.2⟩):=by rw [List.map_map];rfl
  rw [g,h2,List.map_append,List.map_map]
  rfl
 have hlen:ts.length=(tx n jo af T rs).length+1:=by
  have:=congrArg List.length h2
  simpa using this
 have ht:=Fx hn bg jo af T (min T.length n) (by omega)
 obtain⟨c1,c2,c3,c4,c5,c6⟩:=ze n jo af T (min T.length n)
 obtain⟨l,p,hr,hl,hp,hok⟩:=Fy hn bg rs ht c1 c2 c3 c4 (min rs.length 10) (by omega) (by omega)
 obtain⟨f',e1,hf'⟩:=hr [z []] (ts.length+1) (by
  show (tx n jo af T rs).length+1+1≤_
  omega)
 obtain⟨g,rfl⟩:∃g,f'=g+1:=⟨f' - 1,by omega⟩
 have e2:=Bn (ts.length+1) ts st0
 rw [h3] at e2
 rw [show tz (tx n jo af T rs)++[z []]=tz (L8 n rs (O6 n T (sx n jo af) (min T.length n)) (min rs.length 10))++[z []] from rfl,e1] at e2
 rw [lines,if_neg (by exact Bool.false_ne_true),dB,if_pos rfl] at e2
 obtain⟨t1,t2⟩:=xH jo af T (min T.length n) (by omega:min T.length n≤n)
 refine⟨{ stt n jo af T (min T.length n) with places:=p,list:=l},?_,⟨?_,t1,hl,?_,fun i hi=>?_,hok⟩⟩
 ·cases h5:lines (ts.length+1) ts st0 with
  | error a=>rw [h5] at e2;cases e2
  | ok s=>rw [h5] at e2;injection e2 with e2;rw [e2]
 ·show (stt n jo af T (min T.length n)).cls.length=n
  rw [c1]
  unfold kU
  simp
 ·intro hj
  show (stt n jo af T (min T.length n)).join=_∧(stt n jo af T (min T.length n)).after=_
  rw [c5,c6]
  unfold Qt
  rw [if_neg hj]
  exact⟨rfl,rfl⟩
 ·rw [t2 i hi]
  by_cases e:i < T.length
  ·rw [if_pos e,if_pos (by omega)]
  ·rw [if_neg e,if_neg (by omega)]
end Rl
end Go.Proofs.YtdlabakleldgaaaGreatDoor
