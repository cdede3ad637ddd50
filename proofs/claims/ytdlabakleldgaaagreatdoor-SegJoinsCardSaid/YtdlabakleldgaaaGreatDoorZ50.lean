/- Fn Sgh -/
import Derived.Test.YtdlabakleldgaaaGreatDoorZ21
import Derived.Test.YtdlabakleldgaaaGreatDoorZ19
import Derived.Test.YtdlabakleldgaaaGreatDoorZ05
import Derived.Test.YtdlabakleldgaaaGreatDoorZ22
import Derived.Test.YtdlabakleldgaaaGreatDoorZ00
import Derived.Test.YtdlabakleldgaaaGreatDoorZ37
import Derived.Test.YtdlabakleldgaaaGreatDoorZ44
import Derived.Test.YtdlabakleldgaaaGreatDoorZ47
import Derived.Test.YtdlabakleldgaaaGreatDoorZ49
set_option linter.unusedVariables false
set_option linter.unusedSimpArgs false
set_option maxRecDepth 100000
set_option maxHeartbeats 8000000
namespace Go.Proofs.YtdlabakleldgaaaGreatDoor
open Go.RowKit Go.Maps
namespace Rl
theorem kV:∀(l:List Ex) (e:Ex),dK l→wY e→dK (l++[e])
 | [],e,_,h=>by show dK [e];unfold dK;exact⟨h,by unfold dK;trivial⟩
 | a::l,e,hl,h=>by
  unfold dK at hl
  show dK (a::(l++[e]))
  unfold dK
  exact⟨hl.1,kV l e hl.2 h⟩
theorem qx:∀(l:List Ex) (e:Ex) (D:Nat),Au.fO l≤D→Au.dp e≤D→Au.fO (l++[e])≤D
 | [],e,D,_,h=>by simp [Au.fO];exact h
 | a::l,e,D,hl,h=>by
  simp only [Au.fO] at hl
  have:=qx l e D (by omega) h
  simp only [List.cons_append,Au.fO]
  omega
def wz (e:Ex) (D:Nat):Prop:=Au.dp e≤D∧wY e
theorem Md {l:List Ex} {D:Nat} (h2:Au.fO l≤D) (h3:dK l):wz (mO l) (D+1):=by
 unfold mO
 split
 ·unfold dK at h3
  refine⟨?_,h3.1⟩
  simp only [Au.fO] at h2
  omega
 ·refine⟨?_,?_⟩
  ·unfold Au.dp;omega
  ·unfold wY;exact⟨by decide,by decide,h3⟩
theorem Me {l:List Ex} {D:Nat} (h2:Au.fO l≤D) (h3:dK l):wz (mkSeq l) (D+1):=by
 unfold mkSeq
 split
 ·refine⟨?_,?_⟩
  ·unfold Au.dp;simp only [Au.fO];omega
  ·unfold wY;exact⟨by decide,by decide,h3⟩
 ·unfold dK at h3
  refine⟨?_,h3.1⟩
  simp only [Au.fO] at h2
  omega
 ·refine⟨?_,?_⟩
  ·unfold Au.dp;omega
  ·unfold wY;exact⟨by decide,by decide,h3⟩
theorem uZ {e:Ex} {D:Nat} (op:Int) (h:wz e D):wz (.mk op 0 [e]) (D+1):=by
 obtain⟨h3,h4⟩:=h
 refine⟨?_,?_⟩
 ·unfold Au.dp
  simp only [Au.fO]
  omega
 ·unfold wY
  refine⟨by decide,by decide,?_⟩
  unfold dK
  exact⟨h4,by unfold dK;trivial⟩
theorem DX {e e':Ex} {ts ts':List Tk} {D:Nat} (h:often e ts=.ok (e',ts')) (he:wz e D):wz e' (D+1):=by
 cases ts with
 | nil=>cases h
 | cons t ts=>
  simp only [often] at h
  split at h
  ·cases h
  ·split at h
   ·cases h;exact uZ 4 he
   ·split at h
    ·cases h;exact uZ 5 he
    ·split at h
     ·cases h;exact uZ 6 he
     ·cases h;exact⟨by have:=he.1;omega,he.2⟩
def Mf (E:Env):Prop:=∀(s:Str) (b:Int),find E s=some b→0≤b∧b < 4294967296
theorem DY (a b:Int):0≤without a b∧without a b < 4294967296:=by
 unfold without bits
 simp only
 rw [IntKind.wrap_u32]
 omega
theorem Mg {E:Env} {nc p p':Nat} {ts ts':List Tk} {b:Int} (h:fq E nc ts p=.ok (b,ts',p')) (hE:Mf E) (hnc:nc≤24):p'=p+1∧0≤b∧b < 4294967296:=by
 have hw:0≤whole nc∧whole nc < 4294967296:=by
  have h:=El ⟨nc,by omega⟩
  have h1:1≤(2:Int) ^ nc:=h.2.2.1
  have h2:(2:Int) ^ nc≤16777216:=h.2.2.2
  unfold whole
  omega
 cases ts with
 | nil=>cases h
 | cons t ts=>
  simp only [fq] at h
  split at h
  ·cases h
  ·split at h
   ·cases h;exact⟨rfl,hw⟩
   ·split at h
    ·split at h
     ·cases h
     ·split at h
      ·cases h
      ·rename_i hn
       split at h
       ·cases h
       ·cases h
        refine⟨rfl,?_⟩
        split
        ·exact DY _ _
        ·exact iF hn (by omega)
    ·split at h
     ·cases h
     ·rename_i hf
      cases h
      exact⟨rfl,hE _ _ hf⟩
theorem rE (E:Env) (nc:Nat) (hEn:Mf E) (hnc:nc≤24):∀n,
  (∀d ts p e ts' p',either E nc n d ts p=.ok (e,ts',p')→d≤16→wz e (3*(16 - d)+4))∧
  (∀d ts p l e ts' p',alts E nc n d ts p l=.ok (e,ts',p')→d≤16→dK l→Au.fO l≤3*(16 - d)+3→wz e (3*(16 - d)+4))∧
  (∀d ts p l e ts' p',row E nc n d ts p l=.ok (e,ts',p')→d≤16→dK l→Au.fO l≤3*(16 - d)+2→wz e (3*(16 - d)+3))∧
  (∀d ts p e ts' p',thing E nc n d ts p=.ok (e,ts',p')→d≤16→wz e (3*(16 - d)+1))
 | 0=>by
  refine⟨fun _ _ _ _ _ _ h=>?_,fun _ _ _ _ _ _ _ h=>?_,fun _ _ _ _ _ _ _ h=>?_,fun _ _ _ _ _ _ h=>?_⟩ <;> simp [either,alts,row,thing] at h
 | n+1=>by
  obtain⟨hE,hA,hR,hT⟩:=rE E nc hEn hnc n
  have Yy:dK []:=by unfold dK;trivial
  have n1:∀e,wY e→dK [e]:=fun e h2=>by unfold dK;exact⟨h2,Yy⟩
  refine⟨fun d ts p e ts' p' h hd=>?_,fun d ts p l e ts' p' h hd hl hD=>?_,fun d ts p l e ts' p' h hd hl hD=>?_,fun d ts p e ts' p' h hd=>?_⟩
  ·simp only [either] at h
   split at h
   ·cases h
   ·rename_i h1
    obtain⟨b3,b4⟩:=hR _ _ _ _ _ _ _ h1 hd Yy (by simp [Au.fO])
    exact hA _ _ _ _ _ _ _ h hd (n1 _ b4) (by simp only [Au.fO];omega)
  ·simp only [alts] at h
   split at h
   ·cases h
   ·cases h
    obtain⟨c3,c4⟩:=Md hD hl
    exact⟨by omega,c4⟩
   ·rename_i h1
    split at h
    ·cases h
    ·rename_i h2
     obtain⟨b3,b4⟩:=hR _ _ _ _ _ _ _ h2 hd Yy (by simp [Au.fO])
     exact hA _ _ _ _ _ _ _ h hd (kV _ _ hl b4) (qx _ _ _ hD (by omega))
  ·cases ts with
   | nil=>simp [row,thing] at h
   | cons t ts=>
    simp only [row] at h
    split at h
    ·cases h
    ·split at h
     ·split at h
      ·cases h
      ·rename_i h1
       split at h
       ·cases h
       ·rename_i h2
        obtain⟨d3,d4⟩:=DX h2 (hT _ _ _ _ _ _ h1 hd)
        exact hR _ _ _ _ _ _ _ h hd (kV _ _ hl d4) (qx _ _ _ hD (by omega))
     ·cases h
      obtain⟨c3,c4⟩:=Me hD hl
      exact⟨by omega,c4⟩
  ·cases ts with
   | nil=>simp [row,thing] at h
   | cons t ts=>
    simp only [thing] at h
    split at h
    ·split at h
     ·cases h
     ·split at h
      ·cases h
      ·rename_i h1
       split at h
       ·cases h
       ·rename_i h2
        cases h
        obtain⟨c3,c4⟩:=hE _ _ _ _ _ _ h1 (by omega)
        exact⟨by omega,c4⟩
    ·split at h
     ·cases h
     ·rename_i h1
      cases h
      have:=Mg h1 hEn hnc
      refine⟨?_,?_⟩
      ·unfold Au.dp;simp only [Au.fO];omega
      ·unfold wY;exact⟨this.2.1,this.2.2,Yy⟩
def sides:List fD→List Ex
 | []=>[]
 | r::rs=>r.left::r.right::sides rs
theorem u6:∀(l:List fD) (r:fD),sides (l++[r])=sides l++[r.left,r.right]
 | [],r=>rfl
 | a::l,r=>by simp [sides,u6 l r]
structure nE (s:St):Prop where
 dp:Au.fO (sides s.list)≤100
 pl:s.places≤200
 so:dK (sides s.list)
 en:Mf s.env
 cl:s.cls.length≤24
theorem rF {d:Int} {i:Nat} {ts ts':List Tk} {s s':St} (h:bV d i ts s=.ok (ts',s')) (hs:nE s):nE s':=by
 unfold bV at h
 split at h
 ·cases h
 ·split at h
  ·cases h
  ·rename_i h1
   split at h
   ·cases h
   ·rename_i h2
    split at h
    ·cases h
    ·rename_i h3
     cases h
     have a1:=(bF s.env s.cls.length _).1 _ _ _ _ _ _ h1 hs.pl
     have a3:=(bF s.env s.cls.length _).1 _ _ _ _ _ _ h3 a1.2
     obtain⟨b3,b4⟩:=(rE s.env s.cls.length hs.en hs.cl _).1 _ _ _ _ _ _ h1 (by omega)
     obtain⟨c3,c4⟩:=(rE s.env s.cls.length hs.en hs.cl _).1 _ _ _ _ _ _ h3 (by omega)
     obtain⟨s3,s4,s5,s6,s7⟩:=hs
     have e:∀(r:fD),sides (s.list++[r])=(sides s.list++[r.left])++[r.right]:=fun r=>by rw [u6];simp
     refine⟨?_,a3.2,?_,s6,s7⟩
     ·rw [e];exact qx _ _ _ (qx _ _ _ s3 (by simp only;omega)) (by simp only;omega)
     ·rw [e];exact kV _ _ (kV _ _ s5 b4) c4
theorem Ic (E:Env) (x:Str) (b:Int) (s:Str) (c:Int):find (E++[(x,b)]) s=some c→find E s=some c∨c=b:=by
 induction E with
 | nil=>
  intro hc
  simp only [List.nil_append,find] at hc
  split at hc
  ·injection hc with hc;exact Or.inr hc.symm
  ·cases hc
 | cons a E ih=>
  obtain⟨y,d⟩:=a
  intro hc
  simp only [List.cons_append,find] at hc
  split at hc
  ·rename_i he
   exact Or.inl (by simp only [find];rw [if_pos he];exact hc)
  ·rename_i he
   rcases ih hc with h | h
   ·exact Or.inl (by simp only [find];rw [if_neg he];exact h)
   ·exact Or.inr h
theorem Bz {E:Env} {x:Str} {b:Int} (h:Mf E) (hb:0≤b∧b < 4294967296):Mf (E++[(x,b)]):=by
 intro s c hc
 rcases Ic E x b s c hc with h1 | h1
 ·exact h s c h1
 ·subst h1;exact hb
theorem qy:∀(ts:List Tk) (s:St) {ts':List Tk} {s':St},classes ts s=.ok (ts',s')→nE s→nE s'
 | [],s,_,_,h,_=>by cases h
 | t::ts,s,ts',s',h,hs=>by
  rw [fT] at h
  split at h
  ·cases h
  ·split at h
   ·split at h
    ·cases h
    ·split at h
     ·cases h
     ·rename_i hc24
      exact qy ts _ h ⟨hs.dp,hs.pl,hs.so,Bz hs.en (wV _ (by have:=hs.cl;omega)),by show (s.cls++[t.text]).length≤24;have:=hs.cl;rw [List.length_append];simp;omega⟩
   ·cases h;exact hs
theorem Ie {t:Tk} {ts ts':List Tk} {s s':St} (h:line t ts s=.ok (ts',s')) (hs:nE s):nE s':=by
 unfold line at h
 split at h
 ·exact qy ts s h hs
 ·split at h
  ·unfold set' at h
   split at h
   ·cases h
   ·split at h
    ·cases h
    ·split at h
     ·cases h
     ·rename_i h1
      cases h
      exact⟨hs.dp,hs.pl,hs.so,Bz hs.en (iF h1 (by omega)),hs.cl⟩
  ·split at h
   ·unfold join' at h
    split at h
    ·cases h
    ·split at h
     ·cases h
     ·split at h
      ·cases h
      ·cases h;exact⟨hs.dp,hs.pl,hs.so,hs.en,hs.cl⟩
   ·split at h
    ·unfold dV at h
     split at h
     ·cases h
     ·split at h
      ·cases h
      ·split at h
       ·cases h
       ·cases h;exact⟨hs.dp,hs.pl,hs.so,hs.en,hs.cl⟩
    ·split at h
     ·exact rF h hs
     ·split at h
      ·exact rF h hs
      ·split at h
       ·exact rF h hs
       ·cases h
theorem u7:∀(n:Nat) (ts:List Tk) (s:St) {s':St},lines n ts s=.ok s'→nE s→nE s'
 | 0,_,_,_,h,_=>by cases h
 | _+1,[],_,_,h,_=>by cases h
 | n+1,t::ts,s,s',h,hs=>by
  simp only [lines] at h
  split at h
  ·cases h
  ·split at h
   ·cases h;exact hs
   ·split at h
    ·cases h
    ·rename_i h1
     split at h
     ·cases h
     ·exact u7 n _ _ h (Ie h1 hs)
theorem Mh:nE st0:=by
 refine⟨?_,by decide,?_,fun s b h=>(by cases h),by decide⟩
 ·show Au.fO []≤100
  simp [Au.fO]
 ·show dK []
  unfold dK
  trivial
end Rl
theorem mE {S:ByteArray} {s:Rl.St} (h:rd S (.ok s)):Rl.nE s:=by
 rcases h with ⟨_,h⟩ | ⟨hS,ts,hs,h⟩
 ·cases h
 ·exact Rl.u7 _ _ _ h.symm Rl.Mh
theorem u_:∀(l:List Rl.fD),dK (Rl.sides l)→Au.fO (Rl.sides l)≤100→∀r∈l,wY r.left∧wY r.right∧Au.dp r.left≤100∧Au.dp r.right≤100:=by
 intro l
 induction l with
 | nil=>intro _ _ r h;simp at h
 | cons q l ih=>
  intro hs hd r hr
  simp only [Rl.sides] at hs hd
  unfold dK at hs
  obtain⟨h1,hs⟩:=hs
  unfold dK at hs
  obtain⟨h2,hs⟩:=hs
  simp only [Au.fO] at hd
  rcases List.mem_cons.1 hr with rfl | hr
  ·exact⟨h1,h2,by omega,by omega⟩
  ·exact ih hs (by omega) r hr
end Go.Proofs.YtdlabakleldgaaaGreatDoor
namespace Go.Proofs.YtdlabakleldgaaaGreatDoor
open Go.RowKit Go.Maps
open Rl (Ex)
theorem Pf (c jo af:Nat) (T:List Nat) (rs:List Pr):∃s,rd (bs (Hd.text (1+c % 6) jo af T rs)) (.ok s)∧Rl.Made (1+c % 6) jo af T rs s:=by
 obtain⟨ts,ht⟩:=Rl.qE (Hd.text (1+c % 6) jo af T rs) ((Hd.text (1+c % 6) jo af T rs).length+1) 0 (by omega) (Nat.zero_le _)
 obtain⟨s,h1,h2⟩:=Rl.TR (by omega) (by omega) jo af T rs ht
 exact⟨s,Or.inr ⟨by rw [bf];exact Rl.xG (by omega) jo af T rs,ts,ht,h1.symm⟩,h2⟩
theorem rG {P:Program} {fn:Func} {p u x:Tmp} {ty:TypeId} (h:fn.results=#[.tmp u,.cell p ty,.tmp x]) (tmps:Array Value) (w:World) (g:Nat) (t:TypeId) (cs:Array Value) (fr:Nat × Nat) (d:TypeDesc)
  (hp:tmps.getD p undef=.pointer (some ⟨g,0,none⟩)) (hg:w.heap[g]?=some (.cells cs t fr)) (hu:P.underlying ty=some d) (hd:(match d with | .struct _ | .array _ _=>true | _=>false)=true) (hi:(P.info? ty).map (·.size)=some cs.size)
  {y z:Value} (hy:tmps.getD u undef=y) (hz:tmps.getD x undef=z):(results fn tmps).run P w=.ok (.tuple #[y,.agg cs,z]) w:=by
 have hp':tmps[p]?.getD undef=.pointer (some ⟨g,0,none⟩):=by simpa using hp
 have hy':tmps[u]?.getD undef=y:=by simpa using hy
 have hz':tmps[x]?.getD undef=z:=by simpa using hz
 simp [results,h,hp',hy',hz',asAddr,run_loadVar_row w g t ty cs fr d hg hu hd hi]
theorem qC.far {W W':World} {lo mb q:Nat} {s:Rl.St} {cl n:Nat} {nL:List (List Nat)} {oL:List Nat} {nR:List (List Nat)} {oR:List Nat} {c:Array Value} (h:qC W lo mb s cl n nL oL nR oR) (hq:W.heap[q]?=some (.cells c 35 (0,0))) (hl:q < lo) (ho:Only (·=q) W W'):qC W' lo mb s cl n nL oL nR oR:=by
 obtain⟨bT,bD,lN,lO,rN,rO,aD,aA,rL,aH,aG,rR,h1,h2,h3,h4,h5,h6,h7⟩:=h
 have n1:=ou h1 hq (by decide)
 have n2:=ou h2 hq (by decide)
 have n3:=ou h3 hq (by decide)
 exact⟨bT,bD,lN,lO,rN,rO,aD,aA,rL,aH,aG,rR,(ho.block mb (Array.getElem?_eq_some_iff.1 h1).1 n1).trans h1,(ho.block bT (Array.getElem?_eq_some_iff.1 h2).1 n2).trans h2,(ho.block bD (Array.getElem?_eq_some_iff.1 h3).1 n3).trans h3,h4.stay (fI ho) (fun b hb=>by subst hb;exact hl),h5,h6.stay (fI ho) (fun b hb=>by subst hb;exact hl),h7⟩
def mdP (w:World) (n jo af:Nat) (T:List Nat) (rs:List Pr) (e:Ending) (w':World):Prop:=∃v,W.ruV v∧Only (fun _=>False) w w'∧(e=.returned (.tuple #[.pointer none,v,.bool false])∨∃s mb nL oL nR oR,e=.returned (.tuple #[.pointer (some ⟨mb,0,none⟩),v,.bool true])∧Rl.Made n jo af T rs s∧Au.make (s.list.map (·.left)) (n:Int)=.ok (nL,oL)∧Au.make (Au.turns (s.list.map (·.right))) (n:Int)=.ok (nR,oR)∧qC w' w.heap.size mb s n s.list.length nL oL nR oR)
theorem Mi (c n jo af:Nat) (aT:Option Addr) (nT cT:Nat) (T:List Nat) (aR:Option Addr) (nR cR:Nat) (rs:List Pr) (w:World) (hcn:1+c % 6=n) (hc:c≤255) (hj0:jo≠0) (hjo:jo≤255) (Jw:af≤255) (hT:Bw w aT nT T) (hR:Rw w aR nR rs):
  Calls Tryz.prog 6 #[jd c jo af aT nT cT aR nR cR] w (mdP w n jo af T rs):=by
 obtain⟨s,hrd,hmd⟩:=Pf c jo af T rs
 have hS:(bs (Hd.text (1+c % 6) jo af T rs)).size≤4096:=by rw [bf];exact Rl.xG (by omega) jo af T rs
 have x8:Hid (∀W,Only (fun _=>False) w W→Calls Tryz.prog 11 #[jd c jo af aT nT cT aR nR cR] W fun e w'=>e=.returned (.string (bs (Hd.text (1+c % 6) jo af T rs)))∧Only (fun _=>False) W w'):=fun W ho=>DR c jo af aT nT cT T aR nR cR rs W hc hjo hj0 Jw (hT.keep ho) (hR.keep ho)
 obtain⟨S,hSS⟩:∃S,S=bs (Hd.text (1+c % 6) jo af T rs):=⟨_,rfl⟩
 rw [←hSS] at x8 hrd hS
 rw [hcn] at hmd
 have HRD:Hid (∀W,Calls Tryz.prog 10 #[.string S] W (Tq W s n s.list.length)):=fun W=>kQ S s n s.list.length W hrd hmd.cls.symm rfl (by omega) (fun r hr=>⟨((uD hrd).2 r hr).1,((uD hrd).2 r hr).2,(u_ _ (mE hrd).so (mE hrd).dp r hr).1,(u_ _ (mE hrd).so (mE hrd).dp r hr).2.1⟩) (fun r hr=>(u_ _ (mE hrd).so (mE hrd).dp r hr).2.2)
 have HPA:Hid (∀W0,Calls Tryz.prog 12 #[.string S] W0 fun e w'=>∃v c t,e=.returned (.tuple #[v,.int .i64 c,.int .i64 t])∧W.ruV v∧Only (fun _=>False) W0 w'):=fun W0=>W.qV S W0 hS
 have Ut:=zH hmd
 clear hmd hrd hSS hS hcn hc hj0 hjo Jw hT hR
 unfold jd at x8 ⊢
 go_enter Tryz.func6,Tryz.ntmps6
 go_upto_region 1 with fail
 obtain⟨qb,Ld⟩:∃x,x=w.heap.size:=⟨_,rfl⟩
 obtain⟨rb,hrb⟩:∃x,x=w.heap.size+1:=⟨_,rfl⟩
 obtain⟨w0,hw0⟩:∃x,x=(w.alloc (.cells #[.int .u8 (c:Int),.int .u8 (jo:Int),.int .u8 (af:Int),.slice aT nT cT,.slice aR nR cR] 25)).alloc (.cells #[.slice none 0 0,.int .u32 0,.int .u32 0,.slice none 0 0,.slice none 0 0] 35):=⟨_,rfl⟩
 have H0:Hid (vF w0 qb c jo af aT nT cT aR nR cR∧w0.heap[rb]?=some (.cells #[.slice none 0 0,.int .u32 0,.int .u32 0,.slice none 0 0,.slice none 0 0] 35 (0,0))∧Only (fun _=>False) w w0∧w.heap.size≤rb):=by
  rw [hw0,Ld,hrb]
  exact⟨vF.keep (heap_alloc_new w _) ((Only.refl _ _).alloc _),heap_alloc2_new w _ _,((Only.refl _ _).alloc _).alloc _,Nat.le_succ _⟩
 rw [←hw0,←hrb,←Ld]
 clear hw0 Ld hrb
 have k0:w0.cell? ⟨qb,0,none⟩=some (.int .u8 (c:Int)):=(cell_of_row _ _ _ _ _ _ H0.out.1).trans rfl
 have k1:=H0.out.1.c1
 have k2:=H0.out.1.c2
 have k3:=H0.out.1.c3
 have k4:=H0.out.1.c4
 go_wp2_with fail
 refine Calls.mono (x8.out _ H0.out.2.2.1) ?_
 rintro e w1 ⟨rfl,ho1⟩
 clear k0 k1 k2 k3 k4
 have H1:Hid (vF w1 qb c jo af aT nT cT aR nR cR∧w1.heap[rb]?=some (.cells #[.slice none 0 0,.int .u32 0,.int .u32 0,.slice none 0 0,.slice none 0 0] 35 (0,0))∧Only (fun _=>False) w w1∧w.heap.size≤rb):=⟨H0.out.1.keep ho1,(ho1.block _ (Array.getElem?_eq_some_iff.1 H0.out.2.1).1 (fun h=>h)).trans H0.out.2.1,H0.out.2.2.1.trans ho1,H0.out.2.2.2⟩
 clear H0 ho1
 go_wp2_with fail
 refine Calls.mono (HRD.out _) ?_
 rintro e w2 hrd
 have H2:Hid (∃pm cd at',e=.returned (.tuple #[pm,.agg #[.int .i64 cd,.int .i64 at']])∧Only (fun _=>False) w1 w2∧((pm=.pointer none∧cd≠0)∨∃mb nL oL nR oR,pm=.pointer (some ⟨mb,0,none⟩)∧cd=0∧Au.make (s.list.map (·.left)) (n:Int)=.ok (nL,oL)∧Au.make (Au.turns (s.list.map (·.right))) (n:Int)=.ok (nR,oR)∧qC w2 (rb+1) mb s n s.list.length nL oL nR oR)):=by
  rcases hrd with ⟨c,h1,h2,_,h3⟩ | ⟨mb,nL,oL,nR,oR,h1,h2,h3,h4,h5⟩
  ·exact⟨_,c,0,h1,h3,Or.inl ⟨rfl,h2⟩⟩
  ·exact⟨_,0,0,h1,h5,Or.inr ⟨mb,nL,oL,nR,oR,rfl,rfl,h2,h3,h4.low (Nat.le_succ_of_le (Array.getElem?_eq_some_iff.1 H1.out.2.1).1)⟩⟩
 clear hrd
 obtain⟨pm,cd,at',rfl,ho2,hpm⟩:=H2.out
 have H2:Hid (vF w2 qb c jo af aT nT cT aR nR cR∧w2.heap[rb]?=some (.cells #[.slice none 0 0,.int .u32 0,.int .u32 0,.slice none 0 0,.slice none 0 0] 35 (0,0))∧Only (fun _=>False) w w2∧w.heap.size≤rb):=⟨H1.out.1.keep ho2,(ho2.block _ (Array.getElem?_eq_some_iff.1 H1.out.2.1).1 (fun h=>h)).trans H1.out.2.1,H1.out.2.2.1.trans ho2,H1.out.2.2.2⟩
 have HPM:Hid _:=hpm
 clear H1 ho2 hpm
 go_upto_region 2 with fail
 obtain⟨fb,Ru⟩:∃x,x=w2.heap.size:=⟨_,rfl⟩
 obtain⟨w3,hw3⟩:∃x,x=w2.alloc (.cells #[.int .i64 cd,.int .i64 at'] 49):=⟨_,rfl⟩
 have H3:Hid (vF w3 qb c jo af aT nT cT aR nR cR∧w3.heap[rb]?=some (.cells #[.slice none 0 0,.int .u32 0,.int .u32 0,.slice none 0 0,.slice none 0 0] 35 (0,0))∧w3.heap[fb]?=some (.cells #[.int .i64 cd,.int .i64 at'] 49 (0,0))∧Only (fun _=>False) w w3∧w.heap.size≤rb∧Only (fun _=>False) w2 w3):=by
  have ha:Only (fun _=>False) w2 w3:=by rw [hw3];exact (Only.refl _ _).alloc _
  exact⟨H2.out.1.keep ha,(ha.block _ (Array.getElem?_eq_some_iff.1 H2.out.2.1).1 (fun h=>h)).trans H2.out.2.1,by rw [hw3,Ru];exact heap_alloc_new _ _,H2.out.2.2.1.trans ha,H2.out.2.2.2,ha⟩
 rw [←hw3,←Ru]
 clear hw3 Ru H2
 have k0:w3.cell? ⟨qb,0,none⟩=some (.int .u8 (c:Int)):=(cell_of_row _ _ _ _ _ _ H3.out.1).trans rfl
 have k1:=H3.out.1.c1
 have k2:=H3.out.1.c2
 have k3:=H3.out.1.c3
 have k4:=H3.out.1.c4
 go_wp2_with fail
 refine Calls.mono (x8.out _ H3.out.2.2.2.1) ?_
 rintro e w4 ⟨rfl,bI⟩
 have eD:=zH bI
 clear k0 k1 k2 k3 k4 bI
 go_wp2_with fail
 refine Calls.mono (HPA.out _) ?_
 rintro e w5 ⟨v,cc,tt,rfl,⟨a1,a2,a3,n1,c1,n2,c2,n3,c3,j,MR,rfl⟩,df⟩
 have oG:Hid (Only (fun _=>False) w3 w5):=eD.out.trans df
 clear eD df
 go_upto_region 3 with fail
 obtain⟨x5,hx5⟩:∃x,x=w5.heap.size:=⟨_,rfl⟩
 obtain⟨w6,Gf⟩:∃x,x=w5.alloc (.cells #[.slice a1 n1 c1,.int .u32 j,.int .u32 MR,.slice a2 n2 c2,.slice a3 n3 c3] 35):=⟨_,rfl⟩
 have H6:Hid (Xr w6 x5 (.slice a1 n1 c1) (.int .u32 j) (.int .u32 MR) (.slice a2 n2 c2) (.slice a3 n3 c3)∧w6.heap[rb]?=some (.cells #[.slice none 0 0,.int .u32 0,.int .u32 0,.slice none 0 0,.slice none 0 0] 35 (0,0))∧w6.heap[fb]?=some (.cells #[.int .i64 cd,.int .i64 at'] 49 (0,0))∧Only (fun _=>False) w w6∧w.heap.size≤rb∧Only (fun _=>False) w2 w6):=by
  have ha:Only (fun _=>False) w3 w6:=by rw [Gf];exact oG.out.alloc _
  exact⟨by rw [Gf,hx5];exact Xr.new _ _ _ _ _ _,(ha.block _ (Array.getElem?_eq_some_iff.1 H3.out.2.1).1 (fun h=>h)).trans H3.out.2.1,(ha.block _ (Array.getElem?_eq_some_iff.1 H3.out.2.2.1).1 (fun h=>h)).trans H3.out.2.2.1,H3.out.2.2.2.1.trans ha,H3.out.2.2.2.2.1,H3.out.2.2.2.2.2.trans ha⟩
 have zX:Hid (rb < x5):=by rw [hx5];exact Nat.lt_of_lt_of_le (Array.getElem?_eq_some_iff.1 H3.out.2.1).1 oG.out.size
 rw [←Gf,←hx5]
 clear Gf hx5 oG H3
 have x0:=H6.out.1.c0
 have x1:=H6.out.1.c1
 have x2:=H6.out.1.c2
 have x3:=H6.out.1.c3
 have x4:=H6.out.1.c4
 have y0:w6.cell? ⟨rb,0,none⟩=some (.slice none 0 0):=ae H6.out.2.1
 have y1:w6.cell? ⟨rb,1,none⟩=some (.int .u32 0):=ae H6.out.2.1
 have y2:w6.cell? ⟨rb,2,none⟩=some (.int .u32 0):=ae H6.out.2.1
 have y3:w6.cell? ⟨rb,3,none⟩=some (.slice none 0 0):=ae H6.out.2.1
 have y4:w6.cell? ⟨rb,4,none⟩=some (.slice none 0 0):=ae H6.out.2.1
 have lrb:rb < w6.heap.size:=(Array.getElem?_eq_some_iff.1 H6.out.2.1).1
 have f0:w6.cell? ⟨fb,0,none⟩=some (.int .i64 cd):=ae H6.out.2.2.1
 have z0:w6.frozen? ⟨rb,0,none⟩=false:=ak H6.out.2.1 0
 have z1:w6.frozen? ⟨rb,1,none⟩=false:=ak H6.out.2.1 1
 have z2:w6.frozen? ⟨rb,2,none⟩=false:=ak H6.out.2.1 2
 have z3:w6.frozen? ⟨rb,3,none⟩=false:=ak H6.out.2.1 3
 have z4:w6.frozen? ⟨rb,4,none⟩=false:=ak H6.out.2.1 4
 have hx:x5≠rb:=fun e=>by
  have h2:=zX.out
  omega
 have hf:fb≠rb:=ou H6.out.2.2.1 H6.out.2.1 (by decide)
 have HK:Hid (∀b o,b≠rb→(((((w6.setCell ⟨rb,0,none⟩ (.slice a1 n1 c1)).setCell ⟨rb,1,none⟩ (.int .u32 j)).setCell ⟨rb,2,none⟩ (.int .u32 MR)).setCell ⟨rb,3,none⟩ (.slice a2 n2 c2)).setCell ⟨rb,4,none⟩ (.slice a3 n3 c3)).drew.cell? ⟨b,o,none⟩=w6.cell? ⟨b,o,none⟩):=fun b o h=>by
  refine World.cell?_of_block (a:=⟨b,o,none⟩) ?_
  show (World.heap (World.setCell _ _ _))[b]?=_
  exact (Below.heap_setCell _ _ _ _ h).trans ((Below.heap_setCell _ _ _ _ h).trans ((Below.heap_setCell _ _ _ _ h).trans ((Below.heap_setCell _ _ _ _ h).trans (Below.heap_setCell _ _ _ _ h))))
 have HJ0:=(HK.out x5 0 hx).trans x0
 have HJ1:=(HK.out x5 1 hx).trans x1
 have HJ2:=(HK.out x5 2 hx).trans x2
 have HJ3:=(HK.out x5 3 hx).trans x3
 have HJ4:=(HK.out x5 4 hx).trans x4
 have HJ5:=(HK.out fb 0 hf).trans f0
 have HJ:Hid _:=And.intro HJ0 (And.intro HJ1 (And.intro HJ2 (And.intro HJ3 (And.intro HJ4 HJ5))))
 clear HJ0 HJ1 HJ2 HJ3 HJ4 HJ5
 have HI:Hid (w6.drew.cell? ⟨x5,0,none⟩=some (.slice a1 n1 c1)∧w6.drew.cell? ⟨x5,1,none⟩=some (.int .u32 j)∧w6.drew.cell? ⟨x5,2,none⟩=some (.int .u32 MR)∧w6.drew.cell? ⟨x5,3,none⟩=some (.slice a2 n2 c2)∧w6.drew.cell? ⟨x5,4,none⟩=some (.slice a3 n3 c3)∧w6.drew.cell? ⟨fb,0,none⟩=some (.int .i64 cd)):=⟨x0,x1,x2,x3,x4,f0⟩
 go_region_held3 (fun w'=>w'.cell? ⟨x5,0,none⟩=some (.slice a1 n1 c1)∧w'.cell? ⟨x5,1,none⟩=some (.int .u32 j)∧w'.cell? ⟨x5,2,none⟩=some (.int .u32 MR)∧w'.cell? ⟨x5,3,none⟩=some (.slice a2 n2 c2)∧w'.cell? ⟨x5,4,none⟩=some (.slice a3 n3 c3)∧w'.cell? ⟨fb,0,none⟩=some (.int .i64 cd)) ((first | with_reducible exact HI.out | with_reducible exact HI.out.1 | with_reducible exact HI.out.2.1 | with_reducible exact HI.out.2.2.1 | with_reducible exact HI.out.2.2.2.1 | with_reducible exact HI.out.2.2.2.2.1 | with_reducible exact HI.out.2.2.2.2.2 | with_reducible exact HJ.out | with_reducible exact HJ.out.1 | with_reducible exact HJ.out.2.1 | with_reducible exact HJ.out.2.2.1 | with_reducible exact HJ.out.2.2.2.1 | with_reducible exact HJ.out.2.2.2.2.1 | with_reducible exact HJ.out.2.2.2.2.2)) (fail)
 obtain⟨w7,hw7⟩:∃x,x=(((((w6.setCell ⟨rb,0,none⟩ (.slice a1 n1 c1)).setCell ⟨rb,1,none⟩ (.int .u32 j)).setCell ⟨rb,2,none⟩ (.int .u32 MR)).setCell ⟨rb,3,none⟩ (.slice a2 n2 c2)).setCell ⟨rb,4,none⟩ (.slice a3 n3 c3)).drew:=⟨_,rfl⟩
 have H7:Hid (Only (·=rb) w6 w7∧w7.heap[rb]?=some (.cells #[.slice a1 n1 c1,.int .u32 j,.int .u32 MR,.slice a2 n2 c2,.slice a3 n3 c3] 35 (0,0))):=by
  rw [hw7]
  exact⟨((((((Only.refl (·=rb) w6).setCell (p:=⟨rb,0,none⟩) rfl _).setCell (p:=⟨rb,1,none⟩) rfl _).setCell (p:=⟨rb,2,none⟩) rfl _).setCell (p:=⟨rb,3,none⟩) rfl _).setCell (p:=⟨rb,4,none⟩) rfl _).drew,aa (k:=4) (aa (k:=3) (aa (k:=2) (aa (k:=1) (aa (k:=0) H6.out.2.1 _) _) _) _) _⟩
 rw [←hw7]
 clear hw7 HJ HI HK
 go_wp2_with fail
 refine bodyPost_ret (v:=.tuple #[pm,.agg #[.slice a1 n1 c1,.int .u32 j,.int .u32 MR,.slice a2 n2 c2,.slice a3 n3 c3],.bool (cd==0)]) (rG (p:=3) (u:=2) (x:=4) (ty:=35) rfl _ _ rb 35 _ (0,0) _ rfl H7.out.2 Tryz.underlying35 rfl (by kernel_rfl) rfl rfl) rfl ⟨.agg #[.slice a1 n1 c1,.int .u32 j,.int .u32 MR,.slice a2 n2 c2,.slice a3 n3 c3],⟨a1,a2,a3,n1,c1,n2,c2,n3,c3,j,MR,rfl⟩,?_,?_⟩
 ·exact ((H6.out.2.2.2.1.mono (S':=(·=rb)) (fun _ h=>h.elim)).trans H7.out.1).old (fun _ h=>Or.inl (by rw [h];exact H6.out.2.2.2.2.1))
 rcases HPM.out with ⟨rfl,h2⟩ | ⟨mb,nL,oL,nR,oR,rfl,rfl,h2,h3,h4⟩
 ·exact Or.inl (by rw [show (cd==0)=false by simpa using h2])
 ·exact Or.inr ⟨s,mb,nL,oL,nR,oR,rfl,Ut.out,h2,h3,((h4.keep H6.out.2.2.2.2.2).far H6.out.2.1 (Nat.lt_succ_self _) H7.out.1).low (Nat.le_succ_of_le H6.out.2.2.2.2.1)⟩
end Go.Proofs.YtdlabakleldgaaaGreatDoor
