/- Len2 Lines3 Rvx -/
import Derived.Test.YtdlabakleldgaaaGreatDoorZ19
import Derived.Test.YtdlabakleldgaaaGreatDoorZ00
set_option linter.unusedVariables false
set_option linter.unusedSimpArgs false
set_option maxRecDepth 100000
set_option maxHeartbeats 8000000
namespace Go.Proofs.YtdlabakleldgaaaGreatDoor
open Go.RowKit Go.Maps
theorem Kq {ts ts':List Rl.Tk} {t:Rl.Tk} (h:Rl.name ts=.ok (t,ts')):ts'.length < ts.length:=by
 cases ts with
 | nil=>cases h
 | cons t0 Po=>
  rw [lv] at h
  split at h
  ·cases h
  ·split at h
   ·cases h;simp
   ·cases h
theorem Gm {E:Rl.Env} {ts ts':List Rl.Tk} {t:Rl.Tk} (h:Rl.fresh E ts=.ok (t,ts')):ts'.length < ts.length:=Kq (uo h).1
theorem rV {C:List Rl.Str} {ts ts':List Rl.Tk} {k:Nat} (h:Rl.placeOf C ts=.ok (k,ts')):ts'.length < ts.length:=by
 unfold Rl.placeOf at h
 split at h
 ·cases h
 ·rename_i hn
  split at h
  ·cases h
  ·cases h;exact Kq hn
theorem rW:∀(ts:List Rl.Tk) (s:Rl.St) {ts':List Rl.Tk} {s':Rl.St},Rl.classes ts s=.ok (ts',s')→ts'.length≤ts.length∧s'.env.length+ts'.length≤s.env.length+ts.length
 | [],s,_,_,h=>by cases h
 | t::ts,s,ts',s',h=>by
  rw [fT] at h
  split at h
  ·cases h
  ·split at h
   ·split at h
    ·cases h
    ·split at h
     ·cases h
     ·have ih:=rW ts _ h
      unfold Rl.addClass at ih
      simp only [List.length_append,List.length_cons,List.length_nil] at ih ⊢
      omega
   ·cases h;simp
theorem Ac {t:Rl.Tk} {ts ts':List Rl.Tk} {s s':Rl.St} (h:Rl.line t ts s=.ok (ts',s')) (hp:s.places≤200):ts'.length≤ts.length∧s'.env.length+ts'.length≤s.env.length+ts.length:=by
 have Kr:∀d,Rl.bV d t.at' ts s=.ok (ts',s')→ts'.length≤ts.length∧s'.env.length+ts'.length≤s.env.length+ts.length:=by
  intro d h
  unfold Rl.bV at h
  split at h
  ·cases h
  ·split at h
   ·cases h
   ·rename_i h1
    split at h
    ·cases h
    ·rename_i h2
     split at h
     ·cases h
     ·rename_i h3
      cases h
      have a1:=(Rl.bF s.env s.cls.length _).1 _ _ _ _ _ _ h1 hp
      have a2:=Rl.dY h2
      have a3:=(Rl.bF s.env s.cls.length _).1 _ _ _ _ _ _ h3 a1.2
      simp only
      omega
 unfold Rl.line at h
 split at h
 ·exact rW ts s h
 ·split at h
  ·unfold Rl.set' at h
   split at h
   ·cases h
   ·rename_i h1
    split at h
    ·cases h
    ·rename_i h2
     split at h
     ·cases h
     ·rename_i h3
      cases h
      have a1:=Gm h1
      have a2:=Rl.dY h2
      have a3:=Rl.bE h3
      simp only [List.length_append,List.length_cons,List.length_nil]
      omega
  ·split at h
   ·unfold Rl.join' at h
    split at h
    ·cases h
    ·rename_i h1
     split at h
     ·cases h
     ·rename_i h2
      split at h
      ·cases h
      ·rename_i h3
       cases h
       have a1:=Rl.bE h1
       have a2:=Rl.dY h2
       have a3:=Rl.bE h3
       simp only
       omega
   ·split at h
    ·unfold Rl.dV at h
     split at h
     ·cases h
     ·rename_i h1
      split at h
      ·cases h
      ·rename_i h2
       split at h
       ·cases h
       ·rename_i h3
        cases h
        have a1:=rV h1
        have a2:=Rl.dY h2
        have a3:=rV h3
        simp only
        omega
    ·split at h
     ·exact Kr 0 h
     ·split at h
      ·exact Kr 1 h
      ·split at h
       ·exact Kr 2 h
       ·cases h
theorem Ku {s:Rl.Str} (h1:s≠Rl.j6) (h2:s≠Rl.II) (h3:s≠Rl.j_) (h4:s≠Rl.fE) (h5:s≠Rl.tQ) (h6:s≠Rl.BS) (h7:s≠Rl.tT):Maps.has kJ (.string s)=false:=by
 have ne:∀ {a:Rl.Str},s≠a→(Lit.string s)≠(Lit.string a):=fun h e=>h (by injection e)
 unfold kJ
 rw [has_put_other (ne h7),has_put_other (ne h6),has_put_other (ne h5),has_put_other (ne h4),has_put_other (ne h3),has_put_other (ne h2),has_put_other (ne h1)]
 rfl
theorem CQ (n:Nat) (t:Rl.Tk) (ts:List Rl.Tk) (s:Rl.St):Rl.lines (n+1) (t::ts) s=if t.bad=true then .error (20,t.at') else if t.text=[] then .ok s else match Rl.line t ts s with
  | .error f=>.error f
  | .ok (bK,s1)=>match Rl.want 59 bK with
   | .error f=>.error f
   | .ok dC=>Rl.lines n dC s1:=rfl
def Kv (rb:Nat) (S:ByteArray) (mb:Nat) (w:World) (F:Rl.R Rl.St) (e:Ending) (w':World):Prop:=
 match F with
 | .error f=>e=.panicked (BV f.1 f.2)∧Fr rb mb w w'
 | .ok s=>e=.returned (.tuple #[])∧∃x,x.mb=mb∧(∃i:Int,bY w' rb S i x)∧eF w' rb x s∧Fr rb mb w w'
theorem Kn.fr {w w':World} {kb rb mb:Nat} (h:Kn w kb) (ho:Fr rb mb w w') (hn:kb≠mb):Kn w' kb:=by
 obtain⟨es,cl,h1,h2⟩:=h
 exact⟨es,cl,(ho.2 kb es cl h1 hn).trans h1,h2⟩
theorem jD {w:World} {kb:Nat} (h:Kn w kb) {s:Rl.Str} (f:Nat) (hs:s.length≤4096) (e1:Maps.has kJ (.string s)=true) (e2:kJ.atKey (.string s) (.lit (.int .i64 (-1)))=gN f):(Instr.lookup 105 (.map (some kb)) (.string (bs s)) true).run Tryz.prog w=.ok (.tuple #[.func (.func f) #[] #[],.bool true]) w:=by
 obtain⟨v,ps,h1,h2⟩:=h.look hs
 rw [e2] at h2
 rw [e1,RP h2] at h1
 exact h1
theorem nU {f : Nat} {fn : Func} {c : Code} (hf : Tryz.prog.funcs[f]? = some fn) (hname : (fn.name == "runtime.NumGoroutine") = false) (hb : fn.body = some c) (args : Array Value) (w : World) : (callFunc f args).run Tryz.prog w = .ok (.enter f args) w := by
 have h1 : fn.name ≠ "runtime.NumGoroutine" := by simpa using hname
 simp [callFunc,hf,h1,hb]
theorem Gn (rb:Nat) (S:ByteArray) (x:Rd) (s:Rl.St) (ts:List Rl.Tk) (n:Nat) (w:World) (h:In w rb S x ts) (hS:S.size≤4096) (hT:eF w rb x s) (hen:s.env.length+ts.length≤5000) (hn:ts.length < n):
  Calls Tryz.prog 31 #[.pointer (some ⟨rb,0,none⟩)] w (Kv rb S x.mb w (Rl.lines n ts s)):=by
 have hlt:=h.lt
 have HI:=zH h
 have HS:=zH hT
 have UX:=hT.mb
 have P6:w.heap.size≠x.mb:=by omega
 obtain⟨F,hF⟩:∃F,F=Rl.lines n ts s:=⟨_,rfl⟩
 have HF:=zH hF
 rw [←hF]
 clear hF hT h
 have hnil:(⟨#[]⟩:ByteArray).toList=[]:=by rw [Lib.toList_data]
 go_enter Tryz.func31,Tryz.ntmps31
 go_wp2_with (go_at_call 51;refine (Gl _).mono ?_;rintro e w0 ⟨rfl,hK0,ho0⟩;have HK0:=zH hK0;have iA:=zH ho0;clear hK0 ho0)
 go_loopg [] ts.length (fun g wr=>∃(bH:List Rl.Tk) (xr:Rd) (sr:Rl.St) (m:Nat),g=bH.length∧xr.mb=x.mb∧In wr rb S xr bH∧eF wr rb xr sr∧Fr rb x.mb w wr∧Kn wr w.heap.size∧sr.env.length+bH.length≤5000∧bH.length < m∧Hid (F=Rl.lines m bH sr))
 case atStart=>exact⟨ts,x,s,n,rfl,rfl,HI.out.only iA.out (fun h=>h),HS.out.only (iA.out.mono (fun _ h=>h.elim)),iA.out.UR _ _,HK0.out,hen,hn,HF.out⟩
 case round=>
  obtain⟨bH,xr,sr,m,rfl,hmb,zm,hSr,hOr,hKr,RH,hmr,Ej⟩:=hrel
  cases bH with
  | nil=>obtain⟨i,_,h2,_⟩:=zm;exact h2.elim
  | cons t bH=>
   obtain⟨m,rfl⟩:∃k,m=k+1:=⟨m - 1,by omega⟩
   have Kl:=zH hmb
   have iT:=zH zm
   have Km:=zH hSr
   have HOr:=zH hOr
   have Zp:=zH hKr
   have aJ:=Ej.out
   have zR:=hSr.iJ
   rw [CQ] at aJ
   simp only [List.length_cons] at RH hmr
   have htx:=bZ t.text
   clear hmb zm hSr hOr Ej hKr
   by_cases hb:t.bad=true
   ·have HB:=zH hb
    rw [if_pos hb] at aJ
    have HE:=zH aJ
    clear hb aJ
    go_wp2_with (go_at_call 52;refine (iZ rb S xr t bH _ iT.out hS HB.out).mono ?_;rintro e w1 ⟨rfl,ho1⟩)
    refine⟨rfl,?_⟩
    rw [HE.out]
    exact⟨rfl,HOr.out.trans (ho1.fr iT.out.cl _)⟩
   ·have HB:=zH hb
    rw [if_neg hb] at aJ
    by_cases hte:t.text=[]
    ·rw [if_pos hte] at aJ
     have HE:=zH aJ
     have q:t.text.isEmpty=true:=by rw [hte];rfl
     have q2:(t.text==[])=true:=by rw [hte];rfl
     clear hb aJ hte
     go_wp2_with (go_at_call 52;refine (bB rb S xr t bH _ iT.out hS HB.out).mono ?_;rintro e w1 ⟨rfl,az,hs1,he1,ho1⟩;have HR1:=zH az;clear az hs1)
     first | go_end0 | refine bodyPost_ret (results_none rfl _ _ _) rfl ?_
     rw [HE.out]
     exact⟨rfl,xr,Kl.out,⟨_,HR1.out.alloc _⟩,Km.out.only (ho1.alloc _),HOr.out.trans ((ho1.alloc _).fr iT.out.cl _)⟩
    ·rw [if_neg hte] at aJ
     have Jd:=zH hte
     have q:t.text.isEmpty=false:=by simpa using hte
     have q2:(t.text==[])=false:=by simpa using hte
     clear hb hte
     have key:(∃Uh:Nat,(∀args W,(callFunc Uh args).run Tryz.prog W=.ok (.enter Uh args) W)∧(∀W kb,Kn W kb→(Instr.lookup 105 (.map (some kb)) (.string (bs t.text)) true).run Tryz.prog W=.ok (.tuple #[.func (.func Uh) #[] #[],.bool true]) W)∧∀W,In W rb S xr bH→eF W rb xr sr→Calls Tryz.prog Uh #[.pointer (some ⟨rb,0,none⟩),.agg #[.string (bs t.text),.int .i64 (t.at':Int)]] W (pq rb S xr.mb W (Rl.line t bH sr)))∨(Rl.line t bH sr=.error (21,t.at')∧Maps.has kJ (.string t.text)=false):=by
      unfold Rl.line
      by_cases h0:t.text=Rl.j6
      ·exact Or.inl ⟨64,nU Tryz.func64 (by kernel_rfl) rfl,fun W kb h=>by rw [h0];exact jD h 64 (by decide) (by kernel_rfl) (by kernel_rfl),fun W hi ht=>by rw [if_pos h0];exact lI rb S xr sr bH W hi hS ht t.text t.at' (by omega)⟩
      by_cases h1:t.text=Rl.II
      ·exact Or.inl ⟨65,nU Tryz.func65 (by kernel_rfl) rfl,fun W kb h=>by rw [h1];exact jD h 65 (by decide) (by kernel_rfl) (by kernel_rfl),fun W hi ht=>by rw [if_neg h0,if_pos h1];exact Ns rb S xr sr _ bH W hi hS ht t.text t.at' rfl (by omega)⟩
      by_cases h2:t.text=Rl.j_
      ·exact Or.inl ⟨66,nU Tryz.func66 (by kernel_rfl) rfl,fun W kb h=>by rw [h2];exact jD h 66 (by decide) (by kernel_rfl) (by kernel_rfl),fun W hi ht=>by rw [if_neg h0,if_neg h1,if_pos h2];exact Jv rb S xr sr _ bH W hi hS ht t.text t.at' rfl⟩
      by_cases h3:t.text=Rl.fE
      ·exact Or.inl ⟨67,nU Tryz.func67 (by kernel_rfl) rfl,fun W kb h=>by rw [h3];exact jD h 67 (by decide) (by kernel_rfl) (by kernel_rfl),fun W hi ht=>by rw [if_neg h0,if_neg h1,if_neg h2,if_pos h3];exact FW rb S xr sr _ bH W hi hS ht t.text t.at' rfl⟩
      by_cases h4:t.text=Rl.tQ
      ·exact Or.inl ⟨68,nU Tryz.func68 (by kernel_rfl) rfl,fun W kb h=>by rw [h4];exact jD h 68 (by decide) (by kernel_rfl) (by kernel_rfl),fun W hi ht=>by rw [if_neg h0,if_neg h1,if_neg h2,if_neg h3,if_pos h4];exact JI rb S xr sr bH W hi hS ht t.text t.at'⟩
      by_cases h5:t.text=Rl.BS
      ·exact Or.inl ⟨69,nU Tryz.func69 (by kernel_rfl) rfl,fun W kb h=>by rw [h5];exact jD h 69 (by decide) (by kernel_rfl) (by kernel_rfl),fun W hi ht=>by rw [if_neg h0,if_neg h1,if_neg h2,if_neg h3,if_neg h4,if_pos h5];exact NC rb S xr sr bH W hi hS ht t.text t.at'⟩
      by_cases h6:t.text=Rl.tT
      ·exact Or.inl ⟨70,nU Tryz.func70 (by kernel_rfl) rfl,fun W kb h=>by rw [h6];exact jD h 70 (by decide) (by kernel_rfl) (by kernel_rfl),fun W hi ht=>by rw [if_neg h0,if_neg h1,if_neg h2,if_neg h3,if_neg h4,if_neg h5,if_pos h6];exact JJ rb S xr sr bH W hi hS ht t.text t.at'⟩
      exact Or.inr ⟨by rw [if_neg h0,if_neg h1,if_neg h2,if_neg h3,if_neg h4,if_neg h5,if_neg h6],Ku h0 h1 h2 h3 h4 h5 h6⟩
     rcases key with ⟨Uh,hk0,hk1,hk2⟩ | ⟨hln,hno⟩
     ·have HCF:=zH hk0
      have EC:=zH hk1
      have HL:=zH hk2
      obtain⟨LN,Zq⟩:∃X,X=Rl.line t bH sr:=⟨_,rfl⟩
      rw [←Zq] at HL aJ
      have HLN:=zH Zq
      have Zr:Hid _:=aJ
      clear hk0 hk1 hk2 Zq aJ
      go_wp2_with (first |(go_at_call 52;refine (bB rb S xr t bH _ iT.out hS HB.out).mono ?_;rintro e w1 ⟨rfl,az,hs1,he1,ho1⟩;have HR1:=zH az;have lu:=zH hs1;clear az hs1;have bu:=zH ho1;clear ho1;have hlk:(Instr.lookup 105 (.map (some w.heap.size)) (.string (bs t.text)) true).run Tryz.prog (w1.alloc (.cells #[.string (bs t.text),.int .i64 (t.at':Int)] 108))=.ok (.tuple #[.func (.func Uh) #[] #[],.bool true]) (w1.alloc (.cells #[.string (bs t.text),.int .i64 (t.at':Int)] 108)):=EC.out _ _ ((Zp.out.fr (bu.out.fr iT.out.cl x.mb) P6).fr (((Only.refl (fun _=>False) w1).alloc _).UR rb x.mb) P6);have hl1:=HR1.out.lt) |(go_at_call 54;refine (iY rb S t.at' t.at' t.text xr _ (HR1.out.alloc _) (by omega)).mono ?_;rintro e w2 ⟨rfl,hR2,ho2⟩;have P2:Hid (Pb w2 w1.heap.size t.text t.at'):=(Pb.new w1 _ _).only ho2 (by omega);have p0:=P2.out.c0;have p1:=P2.out.c1;have HI2:Hid (In w2 rb S xr bH):=⟨_,hR2,Rl.eG lu.out Jd.out,he1⟩;have aK:Hid (Only (·=rb) wr w2):=(bu.out.alloc _).trans ho2;clear hR2 ho2))
      rw [HCF.out _ _,Oper.upon_enter]
      refine Calls.mono (HL.out w2 HI2.out (Km.out.only aK.out)) ?_
      rintro e w3 hl3
      cases LN with
      | error f=>
       obtain⟨rfl,ho3⟩:=hl3
       refine⟨rfl,?_⟩
       rw [show F=.error f from Zr.out]
       exact⟨rfl,HOr.out.trans ((aK.out.fr iT.out.cl _).trans (by rw [←Kl.out];exact ho3))⟩
      | ok r=>
       obtain⟨bK,s1⟩:=r
       obtain⟨rfl,x3,hx3,dQ,qB,ho3⟩:=hl3
       have tF:Hid (x3.mb=xr.mb∧In w3 rb S x3 bK∧eF w3 rb x3 s1∧Fr rb xr.mb w2 w3):=⟨hx3,dQ,qB,ho3⟩
       have hll:=Ac HLN.out.symm zR
       have hl3:=dQ.lt
       clear hx3 dQ qB ho3 p0 p1
       go_wp2_with fail
       refine Calls.mono (aU 59 rb S x3 bK _ tF.out.2.1 hS) ?_
       rintro e w4 hw4
       cases hwt:Rl.want 59 bK with
       | error f=>
        rw [hwt] at hw4
        obtain⟨rfl,bI⟩:=hw4
        have hf3:=Zr.out
        simp only [hwt] at hf3
        refine⟨rfl,?_⟩
        rw [hf3]
        exact⟨rfl,HOr.out.trans ((aK.out.fr iT.out.cl _).trans ((by rw [←Kl.out];exact tF.out.2.2.2:Fr rb x.mb w2 w3).trans (bI.fr tF.out.2.1.cl _)))⟩
       | ok dC=>
        rw [hwt] at hw4
        obtain⟨rfl,nH,bI⟩:=hw4
        have hf3:=Zr.out
        simp only [hwt] at hf3
        have HE:=zH hf3
        have H4:Hid (In w4 rb S x3 dC∧Only (·=rb) w3 w4):=⟨nH,bI⟩
        have hwl:=Rl.dY hwt
        clear hwt hf3 nH bI
        go_wp2_with fail
        go_roundg dC.length
        case measure=>simp only [List.length_cons];omega
        case rel=>
         have hf:Fr rb x.mb wr w4:=(aK.out.fr iT.out.cl _).trans ((by rw [←Kl.out];exact tF.out.2.2.2:Fr rb x.mb w2 w3).trans (H4.out.2.fr tF.out.2.1.cl _))
         exact⟨dC,x3,s1,m,rfl,tF.out.1.trans Kl.out,H4.out.1,tF.out.2.2.1.only H4.out.2,HOr.out.trans hf,Zp.out.fr hf P6,by omega,by omega,HE.out⟩
     ·rw [hln] at aJ
      have HE:=zH aJ
      have HNo:=zH hno
      clear hln aJ hno
      go_wp2_with (first |(go_at_call 52;refine (bB rb S xr t bH _ iT.out hS HB.out).mono ?_;rintro e w1 ⟨rfl,az,hs1,he1,ho1⟩;have HR1:=zH az;have lu:=zH hs1;clear az hs1;have bu:=zH ho1;clear ho1;obtain⟨vv,ps,hvr,_⟩:=((Zp.out.fr (bu.out.fr iT.out.cl x.mb) P6).fr (((Only.refl (fun _=>False) w1).alloc (.cells #[.string (bs t.text),.int .i64 (t.at':Int)] 108)).UR rb x.mb) P6).look (s:=t.text) (by omega);rw [HNo.out] at hvr;have hl1:=HR1.out.lt) |(go_at_call 53;refine (bR 21 t.at' _).mono ?_;rintro e w3 ⟨rfl,rfl⟩))
      refine⟨rfl,?_⟩
      rw [HE.out]
      exact⟨rfl,HOr.out.trans ((bu.out.alloc _).fr iT.out.cl _)⟩
theorem eQ (w:World) (o:Obj):(w.alloc o).heap.size=w.heap.size+1:=by simp
def Rv (w:World) (B:Nat) (v:Value) (s:Rl.St):Prop:=∃(aC aT aL:Option Addr) (cC cT cL:Nat),v=.agg #[.slice aC s.cls.length cC,.int .u32 s.join,.int .u32 s.after,.slice aT s.au.length cT,.slice aL s.list.length cL]∧w.ownsRow B 9 1 (.slice aC s.cls.length cC) s.cls.length (strs s.cls)∧w.ownsRow B 3 1 (.slice aT s.au.length cT) s.au.length (ints s.au)∧BI w B (.slice aL s.list.length cL) s.list∧s.au.length=s.cls.length∧s.cls.length≤24∧s.list.length≤24
def yh:Value:=.agg #[.slice none 0 0,.int .u32 0,.int .u32 0,.slice none 0 0,.slice none 0 0]
theorem CR:(Tryz.prog.info? 35).map (·.size)=some 5:=by kernel_rfl
theorem Rv.only {w w':World} {B:Nat} {v:Value} {s:Rl.St} {P:Nat→Prop} (h:Rv w B v s) (ho:Only P w w') (hP:∀g,B≤g→¬ P g):Rv w' B v s:=by
 obtain⟨aC,aT,aL,cC,cT,cL,h1,h2,h3,h4,h5⟩:=h
 exact⟨aC,aT,aL,cC,cT,cL,h1,ai h2 ho hP,ai h3 ho hP,h4.only ho hP,h5⟩
def vM (w:World) (z:Nat) (a b c d e:Value):World:=((((w.setCell ⟨z,0,none⟩ a).setCell ⟨z,1,none⟩ b).setCell ⟨z,2,none⟩ c).setCell ⟨z,3,none⟩ d).setCell ⟨z,4,none⟩ e
theorem tH {w:World} {z:Nat} {v0 v1 v2 v3 v4:Value} {t:TypeId} (h:w.heap[z]?=some (.cells #[v0,v1,v2,v3,v4] t (0,0))) (a b c d e:Value):(vM w z a b c d e).heap[z]?=some (.cells #[a,b,c,d,e] t (0,0)):=aa (aa (aa (aa (aa h a) b) c) d) e
theorem jb (w:World) (z:Nat) (a b c d e:Value):Only (·=z) w (vM w z a b c d e):=(((((Only.refl (·=z) w).setCell (p:=⟨z,0,none⟩) rfl a).setCell (p:=⟨z,1,none⟩) rfl b).setCell (p:=⟨z,2,none⟩) rfl c).setCell (p:=⟨z,3,none⟩) rfl d).setCell (p:=⟨z,4,none⟩) rfl e
theorem Only.newAt {w w':World} (h:Only (fun b=>b=w.heap.size) w w'):Only (fun _=>False) w w':=⟨h.os,h.tape,h.output,h.size,fun g hg _=>h.block g hg (by omega)⟩
theorem vk.get {w:World} {F:Nat→Prop}:∀(rs:List Rl.fD) (c:Nat→Option Value) (i:Nat) (r:Rl.fD),vk w F rs c→rs[i]?=some r→∃op st a n cap op' st' a' n' cap',c (7*i)=some (.int .u8 r.does)∧c (7*i+1)=some (.int .u8 op)∧c (7*i+2)=some (.int .u32 st)∧c (7*i+3)=some (.slice a n cap)∧Tr w F r.left (.agg #[.int .u8 op,.int .u32 st,.slice a n cap])∧c (7*i+4)=some (.int .u8 op')∧c (7*i+5)=some (.int .u32 st')∧c (7*i+6)=some (.slice a' n' cap')∧Tr w F r.right (.agg #[.int .u8 op',.int .u32 st',.slice a' n' cap'])
 | [],_,i,_,_,h=>by simp at h
 | r0::rs,c,0,r,ht,h=>by
  simp at h
  subst h
  obtain⟨⟨h0,⟨o,s,k,h1,h2,h3,h4⟩,⟨o',s',k',h5,h6,h7,h8⟩⟩,_⟩:=ht
  obtain⟨op,st,a,n,cap,hf⟩:=h4.form
  obtain⟨op',st',a',n',cap',hf'⟩:=h8.form
  simp only [Value.agg.injEq,Array.mk.injEq,List.cons.injEq,and_true] at hf hf'
  obtain⟨rfl,rfl,rfl⟩:=hf
  obtain⟨rfl,rfl,rfl⟩:=hf'
  exact⟨op,st,a,n,cap,op',st',a',n',cap',h0,h1,h2,h3,h4,h5,h6,h7,h8⟩
 | r0::rs,c,i+1,r,ht,h=>vk.get rs _ i r ht.2 (by simpa using h)
theorem BI.get {w:World} {B:Nat} {a:Option Addr} {c:Nat} {l:List Rl.fD} (h:BI w B (.slice a l.length c) l) {i:Nat} {r:Rl.fD} (hi:l[i]?=some r):∃g op st a1 n cap op' st' a1' n' cap',a=some ⟨g,0,none⟩∧g < w.heap.size∧w.cell? ⟨g,i*7,none⟩=some (.int .u8 r.does)∧w.cell? ⟨g,i*7+1,none⟩=some (.int .u8 op)∧w.cell? ⟨g,i*7+2,none⟩=some (.int .u32 st)∧w.cell? ⟨g,i*7+3,none⟩=some (.slice a1 n cap)∧Tr w (fun b=>B≤b) r.left (.agg #[.int .u8 op,.int .u32 st,.slice a1 n cap])∧w.cell? ⟨g,i*7+4,none⟩=some (.int .u8 op')∧w.cell? ⟨g,i*7+5,none⟩=some (.int .u32 st')∧w.cell? ⟨g,i*7+6,none⟩=some (.slice a1' n' cap')∧Tr w (fun b=>B≤b) r.right (.agg #[.int .u8 op',.int .u32 st',.slice a1' n' cap']):=by
 obtain⟨xs,h1,h2⟩:=h
 have hlt:i < l.length:=(List.getElem?_eq_some_iff.1 hi).1
 obtain⟨g,cap0,hv,_,hg,_,hc⟩:=ax h1 (by omega)
 obtain⟨op,st,a1,n,cap,op',st',a1',n',cap',e0,e1,e2,e3,e4,e5,e6,e7,e8⟩:=vk.get l _ i r h2 hi
 have ha:a=some ⟨g,0,none⟩:=by injection hv
 rw [Nat.mul_comm] at e0 e1 e2 e3 e5 e6 e7
 exact⟨g,op,st,a1,n,cap,op',st',a1',n',cap',ha,hg,(hc _ (by omega)).trans e0,(hc _ (by omega)).trans e1,(hc _ (by omega)).trans e2,(hc _ (by omega)).trans e3,e4,(hc _ (by omega)).trans e5,(hc _ (by omega)).trans e6,(hc _ (by omega)).trans e7,e8⟩
def Xr (w:World) (b:Nat) (v0 v1 v2 v3 v4:Value):Prop:=w.heap[b]?=some (.cells #[v0,v1,v2,v3,v4] 35 (0,0))
section
variable {w w':World} {b:Nat} {v0 v1 v2 v3 v4:Value}
theorem Xr.only {P:Nat→Prop} (h:Xr w b v0 v1 v2 v3 v4) (ho:Only P w w') (hn:¬ P b):Xr w' b v0 v1 v2 v3 v4:=(ho.block b (Array.getElem?_eq_some_iff.1 h).1 hn).trans h
theorem Xr.new (w:World) (v0 v1 v2 v3 v4:Value):Xr (w.alloc (.cells #[v0,v1,v2,v3,v4] 35)) w.heap.size v0 v1 v2 v3 v4:=heap_alloc_new _ _
theorem Xr.alloc (h:Xr w b v0 v1 v2 v3 v4) (o:Obj):Xr (w.alloc o) b v0 v1 v2 v3 v4:=(Below.heap_alloc _ _ _ (Array.getElem?_eq_some_iff.1 h).1).trans h
theorem Xr.c0 (h:Xr w b v0 v1 v2 v3 v4):w.cell? ⟨b,0,none⟩=some v0:=(cell_of_row _ _ _ _ _ _ h).trans rfl
theorem Xr.c1 (h:Xr w b v0 v1 v2 v3 v4):w.cell? ⟨b,1,none⟩=some v1:=(cell_of_row _ _ _ _ _ _ h).trans rfl
theorem Xr.c2 (h:Xr w b v0 v1 v2 v3 v4):w.cell? ⟨b,2,none⟩=some v2:=(cell_of_row _ _ _ _ _ _ h).trans rfl
theorem Xr.c3 (h:Xr w b v0 v1 v2 v3 v4):w.cell? ⟨b,3,none⟩=some v3:=(cell_of_row _ _ _ _ _ _ h).trans rfl
theorem Xr.c4 (h:Xr w b v0 v1 v2 v3 v4):w.cell? ⟨b,4,none⟩=some v4:=(cell_of_row _ _ _ _ _ _ h).trans rfl
end
end Go.Proofs.YtdlabakleldgaaaGreatDoor
