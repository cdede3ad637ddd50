/- Sgc Sgd -/
import Derived.Test.YtdlabakleldgaaaGreatDoorZ00
import Derived.Test.YtdlabakleldgaaaGreatDoorZ25
import Derived.Test.YtdlabakleldgaaaGreatDoorZ36
import Derived.Test.YtdlabakleldgaaaGreatDoorZ35
import Derived.Deep.RegionHeld3
set_option linter.unusedVariables false
set_option linter.unusedSimpArgs false
set_option maxRecDepth 100000
set_option maxHeartbeats 8000000
namespace Go.Proofs.YtdlabakleldgaaaGreatDoor
open Go.RowKit Go.Maps
open Rl (Ex)
theorem oq {w:World} {base n c:Nat} {a:Option Addr} {l:List Int} (h:w.ownsRow base 3 1 (.slice a n c) n (ints l)) (hn:n=l.length):Iw w a n l:=by
 refine⟨hn.symm,?_⟩
 by_cases h0:0 < n
 ·obtain⟨g,cap,hv,hg,_,hc⟩:=L.bU h h0
  injection hv with e1
  refine⟨g,0,fun _=>⟨e1,hg⟩,fun j x hj=>?_⟩
  rw [Nat.zero_add]
  exact hc j _ (by unfold ints;rw [List.getElem?_map,hj];rfl)
 ·have e:l=[]:=List.eq_nil_of_length_eq_zero (by omega)
  subst e
  exact⟨0,0,fun h=>absurd h h0,fun j x hj=>by simp at hj⟩
theorem A8 {w w':World} {es:List Ex} {a:Option Addr} {c:Nat} (h:Lex w (fun b=>b < w.heap.size) es a c) (ho:Only (fun _=>False) w w'):Lex w' (fun b=>b < w'.heap.size) es a c:=by
 have h1:=h.gK ho
 refine⟨h1.1,fun hn=>?_⟩
 obtain⟨b,off,e,hb,ht⟩:=h1.2 hn
 exact⟨b,off,e,Nat.lt_of_lt_of_le hb ho.size,cZ.keep (w:=w') (F:=fun b=>b < w.heap.size) (fun b _ o v hv=>hv) (fun b hb=>Nat.lt_of_lt_of_le hb ho.size) es b off hb ht⟩
theorem Ib.dG {w w':World} {b:Nat} {l:List Int} (h:Ib w b l) (ho:Only (fun _=>False) w w'):Ib w' b l:=(ho.block b h.lt (fun h=>h)).trans h
theorem Ub.dG {w w':World} {b:Nat} {l:List Int} (h:Ub w b l) (ho:Only (fun _=>False) w w'):Ub w' b l:=(ho.block b (Array.getElem?_eq_some_iff.1 h).1 (fun h=>h)).trans h
def Yj (w:World) (s:Rl.St) (cl n:Nat) (nL:List (List Nat)) (oL:List Nat) (nR:List (List Nat)) (oR:List Nat) (e:Ending) (w':World):Prop:=
 ∃mb bT bD lN lO rN rO aD aA rL aH aG rR,e=.returned (.tuple #[.pointer (some ⟨mb,0,none⟩),.int .i64 0])∧Mz w' mb s.join s.after (.slice (some ⟨bT,0,none⟩) cl cl) (.slice (some ⟨bD,0,none⟩) n n) lN lO rN rO∧Ib w' bT (s.au.map (fun x=>fF x cl))∧Ub w' bD (s.list.map (·.does))∧L.Ra w' w.heap.size (.agg #[lN,lO]) aD aA∧L.Hm.iq nL.length cl (dX nL) (oX oL) aD aA rL∧L.Ra w' w.heap.size (.agg #[rN,rO]) aH aG∧L.Hm.iq nR.length cl (dX nR) (oX oR) aH aG rR∧Only (fun _=>False) w w'
theorem xu {kids:List Ex} {x:Ex} (h:x∈Au.turns kids):∃k∈kids,x=Au.turn k:=by
 rw [Au.gp] at h
 obtain⟨k,hk,e⟩:=List.mem_map.1 h
 exact⟨k,hk,e.symm⟩
theorem OI:∀e:Ex,Au.dp (Au.turn e)≤Au.dp e:=by
 intro e
 apply Ex.rec (motive_1:=fun e=>Au.dp (Au.turn e)≤Au.dp e) (motive_2:=fun es=>∀k∈es,Au.dp (Au.turn k)≤Au.dp k)
 ·intro op set kids ih
  rw [EK]
  unfold Au.dp
  have:Au.fO (Au.turns (kd op kids))≤Au.fO kids:=Au.xU _ _ (fun k hk=>by
   obtain⟨x,hx,rfl⟩:=xu hk
   exact Nat.le_trans (ih x (yz hx)) (Au.oW _ _ (yz hx)))
  omega
 ·intro k hk;cases hk
 ·intro e es he hs k hk
  rcases List.mem_cons.1 hk with rfl | hk
  ·exact he
  ·exact hs k hk
def Bad (s:Rl.St) (cl:Nat):Prop:=(∃k,Au.make (s.list.map (·.left)) (cl:Int)=.error k)∨(∃k,Au.make (s.list.map (·.right)) (cl:Int)=.error k)∨(∃k,Au.make (Au.turns (s.list.map (·.right))) (cl:Int)=.error k)
def WI (w:World) (s:Rl.St) (cl n:Nat) (e:Ending) (w':World):Prop:=(∃c,e=.returned (.tuple #[.pointer none,.int .i64 c])∧c≠0∧Bad s cl∧Only (fun _=>False) w w')∨(∃nL oL nR oR,Au.make (s.list.map (·.left)) (cl:Int)=.ok (nL,oL)∧Au.make (Au.turns (s.list.map (·.right))) (cl:Int)=.ok (nR,oR)∧Yj w s cl n nL oL nR oR e w')
theorem A9 (s:Rl.St) (B:Nat) (v:Value) (cl n:Nat) (w:World) (hV:Rv w B v s) (hcl:cl=s.cls.length) (hn:n=s.list.length) (h0:0 < cl) (hS:∀r∈s.list,Rl.Small r.left∧Rl.Small r.right∧wY r.left∧wY r.right) (hD:∀r∈s.list,Au.dp r.left≤100∧Au.dp r.right≤100):
  Calls Tryz.prog 18 #[v] w (WI w s cl n):=by
 obtain⟨aC,aT,aL,cC,cT,cL,rfl,v1,v2,v3,v4,v5,v6⟩:=hV
 obtain⟨jn,hjn⟩:∃x,x=s.join:=⟨_,rfl⟩
 obtain⟨af,Jw⟩:∃x,x=s.after:=⟨_,rfl⟩
 have WJ:cl≤24:=by omega
 have Nt:n≤24:=by omega
 have HSI:Hid (∀W',Only (fun _=>False) w W'→Calls Tryz.prog 32 #[.slice aL n cL] W' fun e w'=>∃a1 c1 a2 c2,e=.returned (.tuple #[.slice a1 n c1,.slice a2 n c2])∧Lex w' (fun b=>b < w'.heap.size) (s.list.map (·.left)) a1 c1∧Lex w' (fun b=>b < w'.heap.size) (s.list.map (·.right)) a2 c2∧Only (fun _=>False) W' w'):=fun W' ho=>by
  rw [hn]
  exact Gt s.list B aL cL W' (v3.only ho (fun _ _ h=>h)) v6 hS
 have HDO:Hid (∀W',Only (fun _=>False) w W'→Calls Tryz.prog 37 #[.slice aL n cL] W' fun e w'=>∃b,e=.returned (.slice (some ⟨b,0,none⟩) n n)∧Ub w' b (s.list.map (·.does))∧Only (fun _=>False) W' w'):=fun W' ho=>by
  rw [hn]
  refine (CX s.list B aL cL W' (v3.only ho (fun _ _ h=>h)) v6).mono ?_
  rintro e w' ⟨b,h1,_,h2,h3⟩
  exact⟨b,h1,h2,h3⟩
 have NZ:Hid (∀W',Only (fun _=>False) w W'→Calls Tryz.prog 36 #[.slice aT cl cT,.int .i64 (cl:Int)] W' fun e w'=>∃b,e=.returned (.slice (some ⟨b,0,none⟩) cl cl)∧Ib w' b (s.au.map (fun x=>fF x cl))∧Only (fun _=>False) W' w'):=fun W' ho=>by
  have hi:Iw w aT cl s.au:=by rw [hcl,←v4];exact oq v2 rfl
  refine (AY s.au aT cl cT W' (hi.keep ho) WJ h0).mono ?_
  rintro e w' ⟨b,h1,_,h2,h3⟩
  exact⟨b,h1,h2,h3⟩
 have YO:Hid (∀nL oL,Au.make (s.list.map (·.left)) (cl:Int)=.ok (nL,oL)→∀W' a c,Lex W' (fun b=>b < W'.heap.size) (s.list.map (·.left)) a c→Calls Tryz.prog 33 #[.slice a n c,.int .i64 (cl:Int)] W' (lfP W' cl nL oL)):=fun nL oL hL W' a c h=>by
  have:=r9 (fun b=>b < W'.heap.size) (s.list.map (·.left)) a c cl nL oL W' h (fun b hb=>hb) (fun e he=>by obtain⟨r,hr,rfl⟩:=List.mem_map.1 he;exact Nat.le_trans (hD r hr).1 (by omega)) hL
  rw [List.length_map,←hn] at this
  exact this
 have HLE:Hid (∀k,Au.make (s.list.map (·.left)) (cl:Int)=.error k→∀W' a c,Lex W' (fun b=>b < W'.heap.size) (s.list.map (·.left)) a c→Calls Tryz.prog 33 #[.slice a n c,.int .i64 (cl:Int)] W' fun e w'=>e=.returned (.tuple #[.agg #[.slice none 0 0,.slice none 0 0],.int .i64 (vQ k)])∧Only (fun _=>False) W' w'):=fun k hL W' a c h=>by
  have:=r_ (fun b=>b < W'.heap.size) (s.list.map (·.left)) a c cl k W' h (fun b hb=>hb) (fun e he=>by obtain⟨r,hr,rfl⟩:=List.mem_map.1 he;exact Nat.le_trans (hD r hr).1 (by omega)) hL
  rw [List.length_map,←hn] at this
  exact this
 have hDT:∀e∈Au.turns (s.list.map (·.right)),Au.dp e≤1000000:=fun e he=>by
  obtain⟨k,hk,rfl⟩:=xu he
  obtain⟨r,hr,rfl⟩:=List.mem_map.1 hk
  exact Nat.le_trans (OI _) (Nat.le_trans (hD r hr).2 (by omega))
 have Uu:(Au.turns (s.list.map (·.right))).length=n:=by rw [Au.jc,List.length_map];exact hn.symm
 have HRF:Hid (∀nR oR,Au.make (Au.turns (s.list.map (·.right))) (cl:Int)=.ok (nR,oR)→∀W' a c,Lex W' (fun b=>b < W'.heap.size) (Au.turns (s.list.map (·.right))) a c→Calls Tryz.prog 33 #[.slice a n c,.int .i64 (cl:Int)] W' (lfP W' cl nR oR)):=fun nR oR hR W' a c h=>by
  have:=r9 (fun b=>b < W'.heap.size) (Au.turns (s.list.map (·.right))) a c cl nR oR W' h (fun b hb=>hb) hDT hR
  rw [Uu] at this
  exact this
 have HRE:Hid (∀k,Au.make (Au.turns (s.list.map (·.right))) (cl:Int)=.error k→∀W' a c,Lex W' (fun b=>b < W'.heap.size) (Au.turns (s.list.map (·.right))) a c→Calls Tryz.prog 33 #[.slice a n c,.int .i64 (cl:Int)] W' fun e w'=>e=.returned (.tuple #[.agg #[.slice none 0 0,.slice none 0 0],.int .i64 (vQ k)])∧Only (fun _=>False) W' w'):=fun k hR W' a c h=>by
  have:=r_ (fun b=>b < W'.heap.size) (Au.turns (s.list.map (·.right))) a c cl k W' h (fun b hb=>hb) hDT hR
  rw [Uu] at this
  exact this
 have HMR:Hid (∀W' a c,Lex W' (fun b=>b < W'.heap.size) (s.list.map (·.right)) a c→Calls Tryz.prog 34 #[.slice a n c,.int .i64 (cl:Int)] W' fun e w'=>∃aN nN kN aO nO kO cc,e=.returned (.tuple #[.agg #[.slice aN nN kN,.slice aO nO kO],.int .i64 cc])∧(cc=26→∃k,Au.make (s.list.map (·.right)) (cl:Int)=.error k)∧Only (fun _=>False) W' w'):=fun W' a c h=>by
  have:=uz (fun b=>b < W'.heap.size) (s.list.map (·.right)) a c (cl:Int) W' h (fun b hb=>hb) (fun e he=>by obtain⟨r,hr,rfl⟩:=List.mem_map.1 he;exact Nat.le_trans (hD r hr).2 (by omega))
  rw [List.length_map,←hn] at this
  rcases hm:Au.make (s.list.map (·.right)) (cl:Int) with k | ⟨nx,o⟩
  all_goals
   rw [hm] at this
   refine this.mono ?_
  ·rintro e w' ⟨h1,ho⟩
   exact⟨_,_,_,_,_,_,_,h1,fun _=>⟨k,hm⟩,ho⟩
  ·rintro e w' ⟨⟨v,h1,h2⟩,ho⟩
   obtain⟨_,vN,vO,rfl,_,q1,q2,_⟩:=h2
   obtain⟨aN,kN,rfl⟩:=L.ah q1
   obtain⟨aO,kO,rfl⟩:=L.ah q2
   exact⟨aN,_,kN,aO,_,kO,_,h1,fun e=>absurd e (by decide),ho⟩
 have HTU:Hid (∀W' a c,Lex W' (fun b=>b < W'.heap.size) (s.list.map (·.right)) a c→Calls Tryz.prog 35 #[.slice a n c] W' fun e w'=>∃b,e=.returned (.slice (some ⟨b,0,none⟩) n n)∧Lex w' (fun b=>b < w'.heap.size) (Au.turns (s.list.map (·.right))) (some ⟨b,0,none⟩) n∧Only (fun _=>False) W' w'):=fun W' a c h=>CZ _ _ a c n W' h (fun b hb=>hb) (by rw [List.length_map];exact hn) Nt (fun e he=>by obtain⟨r,hr,rfl⟩:=List.mem_map.1 he;exact⟨(hS r hr).2.1,(hD r hr).2⟩)
 have HJ:Hid (jn=s.join∧af=s.after):=⟨hjn,Jw⟩
 rw [←hcl,←hn,←hjn,←Jw,v4,←hcl]
 have z0:((cl:Int)==0)=false:=by rw [beq_eq_false_iff_ne];omega
 clear v1 v2 v3 v4 v5 v6 hcl hn hS hD hjn Jw hDT Uu
 go_enter Tryz.func18,Tryz.ntmps18
 go_upto_region 1 with fail
 obtain⟨R,hRR⟩:∃x,x=w.heap.size:=⟨_,rfl⟩
 obtain⟨w0,hw0⟩:∃x,x=w.alloc (.cells #[.slice aC cl cC,.int .u32 jn,.int .u32 af,.slice aT cl cT,.slice aL n cL] 35):=⟨_,rfl⟩
 have H0:Hid (Xr w0 R (.slice aC cl cC) (.int .u32 jn) (.int .u32 af) (.slice aT cl cT) (.slice aL n cL)∧Only (fun _=>False) w w0):=by rw [hRR,hw0];exact⟨Xr.new w _ _ _ _ _,(Only.refl _ _).alloc _⟩
 rw [←hw0,←hRR]
 clear hw0 hRR
 have HX:Hid (∀W',Only (fun _=>False) w0 W'→(W'.cell? ⟨R,0,none⟩=some (.slice aC cl cC)∧W'.cell? ⟨R,1,none⟩=some (.int .u32 jn)∧W'.cell? ⟨R,2,none⟩=some (.int .u32 af)∧W'.cell? ⟨R,3,none⟩=some (.slice aT cl cT)∧W'.cell? ⟨R,4,none⟩=some (.slice aL n cL))∧R < W'.heap.size):=fun W' ho=>by
  have h:=H0.out.1.only ho (fun h=>h)
  exact⟨⟨h.c0,h.c1,h.c2,h.c3,h.c4⟩,(Array.getElem?_eq_some_iff.1 h).1⟩
 obtain⟨⟨r0,r1,r2,r3,r4⟩,lR⟩:=HX.out w0 (Only.refl _ _)
 go_wp2_with fail
 refine Calls.mono (HSI.out _ H0.out.2) ?_
 rintro e w1 ⟨a1,c1,a2,c2,rfl,hl1,hl2,ho1⟩
 have H1:Hid (Lex w1 (fun b=>b < w1.heap.size) (s.list.map (·.left)) a1 c1∧Lex w1 (fun b=>b < w1.heap.size) (s.list.map (·.right)) a2 c2∧Only (fun _=>False) w0 w1):=⟨hl1,hl2,ho1⟩
 clear hl1 hl2 ho1 r0 r1 r2 r3 r4 lR
 rcases hL:Au.make (s.list.map (·.left)) (cl:Int) with k | ⟨nL,oL⟩
 ·have HLk:Hid _:=hL
  have q:(vQ k !=0)=true:=by simpa using p9 k
  clear hL
  go_wp2_with fail
  refine Calls.mono (HLE.out k HLk.out _ _ _ H1.out.1) ?_
  rintro e w2 ⟨rfl,ho2⟩
  go_wp2_with fail
  go_ret2
  exact Or.inl ⟨_,rfl,p9 k,Or.inl ⟨k,HLk.out⟩,(H0.out.2.trans (H1.out.2.2.trans ho2)).alloc _⟩
 have BN:=zH hL
 clear hL
 go_wp2_with fail
 refine Calls.mono (YO.out _ _ BN.out _ _ _ H1.out.1) ?_
 rintro e w2 ⟨vl,aD,aA,rL,rfl,hra,hls,ho2⟩
 have DC:=hra
 obtain⟨vlN,vlO,rwl,rfl,hrl,hX,_,hO⟩:=hra
 obtain⟨aX,kX,rfl⟩:=L.ah hX
 obtain⟨aY,kY,rfl⟩:=L.ah hO
 obtain⟨nX,Tn⟩:∃x,x=rwl.length:=⟨_,rfl⟩
 obtain⟨nY,Qh⟩:∃x,x=aA.length:=⟨_,rfl⟩
 rw [←Tn,←Qh] at DC ⊢
 have H2:Hid (L.Ra w2 w1.heap.size (.agg #[.slice aX nX kX,.slice aY nY kY]) aD aA∧L.Hm.iq nL.length cl (dX nL) (oX oL) aD aA rL∧Only (fun _=>False) w1 w2):=⟨DC,hls,ho2⟩
 clear DC hls ho2 hX hO hrl Tn Qh
 go_upto_region 6 with fail
 obtain⟨lb,hlb⟩:∃x,x=w2.heap.size:=⟨_,rfl⟩
 obtain⟨w3,hw3⟩:∃x,x=w2.alloc (.cells #[.slice aX nX kX,.slice aY nY kY] 71):=⟨_,rfl⟩
 have H3:Hid (w3.heap[lb]?=some (.cells #[.slice aX nX kX,.slice aY nY kY] 71 (0,0))∧Only (fun _=>False) w2 w3):=by rw [hw3,hlb];exact⟨heap_alloc_new _ _,(Only.refl _ _).alloc _⟩
 rw [←hw3,←hlb]
 clear hw3 hlb
 have HR3:Hid (Lex w3 (fun b=>b < w3.heap.size) (s.list.map (·.right)) a2 c2):=A8 H1.out.2.1 (H2.out.2.2.trans H3.out.2)
 go_wp2_with fail
 refine Calls.mono (HMR.out _ _ _ HR3.out) ?_
 rintro e w4 ⟨aN,nN,kN,aO,nO,kO,cc,rfl,hce,bI⟩
 have HCC:=zH hce
 clear hce
 by_cases hcc:cc=26
 ·subst hcc
  go_wp2_with fail
  go_ret2
  exact Or.inl ⟨_,rfl,by decide,Or.inr (Or.inl (HCC.out trivial)),(H0.out.2.trans (H1.out.2.2.trans (H2.out.2.2.trans (H3.out.2.trans bI)))).alloc _⟩
 have qc:(cc==26)=false:=by simpa using hcc
 clear hcc
 have H4:=zH bI
 clear bI
 go_upto_region 9 with fail
 obtain⟨w5,FZ⟩:∃x,x=w4.alloc (.cells #[.slice aN nN kN,.slice aO nO kO] 71):=⟨_,rfl⟩
 have H5:Hid (Only (fun _=>False) w3 w5):=by rw [FZ];exact H4.out.alloc _
 rw [←FZ]
 clear FZ H4
 have RL:Hid (Lex w5 (fun b=>b < w5.heap.size) (s.list.map (·.right)) a2 c2):=A8 HR3.out H5.out
 go_wp2_with fail
 refine Calls.mono (HTU.out _ _ _ RL.out) ?_
 rintro e w6 ⟨tb,rfl,hlt,qM⟩
 have H6:Hid (Lex w6 (fun b=>b < w6.heap.size) (Au.turns (s.list.map (·.right))) (some ⟨tb,0,none⟩) n∧Only (fun _=>False) w5 w6):=⟨hlt,qM⟩
 clear hlt qM
 rcases hR:Au.make (Au.turns (s.list.map (·.right))) (cl:Int) with k | ⟨nR,oR⟩
 ·have HRk:Hid _:=hR
  have q:(vQ k !=0)=true:=by simpa using p9 k
  clear hR
  go_wp2_with fail
  refine Calls.mono (HRE.out k HRk.out _ _ _ H6.out.1) ?_
  rintro e w7 ⟨rfl,Yk⟩
  go_wp2_with fail
  go_ret2
  exact Or.inl ⟨_,rfl,p9 k,Or.inr (Or.inr ⟨k,HRk.out⟩),(H0.out.2.trans (H1.out.2.2.trans (H2.out.2.2.trans (H3.out.2.trans (H5.out.trans (H6.out.2.trans Yk)))))).alloc _⟩
 have HMk:=zH hR
 clear hR
 go_wp2_with fail
 refine Calls.mono (HRF.out _ _ HMk.out _ _ _ H6.out.1) ?_
 rintro e w7 ⟨vr,aH,aG,rR,rfl,hra,hls,Yk⟩
 have DC:=hra
 obtain⟨vrN,vrO,rwr,rfl,hrl,hX,_,hO⟩:=hra
 obtain⟨aZ,kZ,rfl⟩:=L.ah hX
 obtain⟨aW,kW,rfl⟩:=L.ah hO
 obtain⟨nZ,Tp⟩:∃x,x=rwr.length:=⟨_,rfl⟩
 obtain⟨nW,Qi⟩:∃x,x=aG.length:=⟨_,rfl⟩
 rw [←Tp,←Qi] at DC ⊢
 have H7:Hid (L.Ra w7 w6.heap.size (.agg #[.slice aZ nZ kZ,.slice aW nW kW]) aH aG∧L.Hm.iq nR.length cl (dX nR) (oX oR) aH aG rR∧Only (fun _=>False) w6 w7):=⟨DC,hls,Yk⟩
 clear DC hls Yk hX hO hrl Tp Qi
 go_upto_region 12 with fail
 obtain⟨rb,hrb⟩:∃x,x=w7.heap.size:=⟨_,rfl⟩
 obtain⟨w8,hw8⟩:∃x,x=w7.alloc (.cells #[.slice aZ nZ kZ,.slice aW nW kW] 71):=⟨_,rfl⟩
 have H8:Hid (w8.heap[rb]?=some (.cells #[.slice aZ nZ kZ,.slice aW nW kW] 71 (0,0))∧Only (fun _=>False) w7 w8):=by rw [hw8,hrb];exact⟨heap_alloc_new _ _,(Only.refl _ _).alloc _⟩
 rw [←hw8,←hrb]
 clear hw8 hrb
 have Yl:Hid (Only (fun _=>False) w3 w8):=H5.out.trans (H6.out.2.trans (H7.out.2.2.trans H8.out.2))
 have Ym:Hid (Only (fun _=>False) w0 w8∧Only (fun _=>False) w w8):=by
  have h:=H1.out.2.2.trans (H2.out.2.2.trans (H3.out.2.trans Yl.out))
  exact⟨h,H0.out.2.trans h⟩
 go_upto_region 14 with fail
 have Uf:Hid (∀W',Only (fun _=>False) w8 W'→(fun W'=>(W'.cell? ⟨R,0,none⟩=some (.slice aC cl cC)∧W'.cell? ⟨R,1,none⟩=some (.int .u32 jn)∧W'.cell? ⟨R,2,none⟩=some (.int .u32 af)∧W'.cell? ⟨R,3,none⟩=some (.slice aT cl cT)∧W'.cell? ⟨R,4,none⟩=some (.slice aL n cL))∧(W'.cell? ⟨lb,0,none⟩=some (.slice aX nX kX)∧W'.cell? ⟨lb,1,none⟩=some (.slice aY nY kY))∧(W'.cell? ⟨rb,0,none⟩=some (.slice aZ nZ kZ)∧W'.cell? ⟨rb,1,none⟩=some (.slice aW nW kW))) W'):=fun W' ho=>by
  have hl:W'.heap[lb]?=some (.cells #[.slice aX nX kX,.slice aY nY kY] 71 (0,0)):=(ho.block lb (Nat.lt_of_lt_of_le (Array.getElem?_eq_some_iff.1 H3.out.1).1 Yl.out.size) (fun h=>h)).trans ((Yl.out.block lb (Array.getElem?_eq_some_iff.1 H3.out.1).1 (fun h=>h)).trans H3.out.1)
  have hr:W'.heap[rb]?=some (.cells #[.slice aZ nZ kZ,.slice aW nW kW] 71 (0,0)):=(ho.block rb (Array.getElem?_eq_some_iff.1 H8.out.1).1 (fun h=>h)).trans H8.out.1
  exact⟨(HX.out W' (Ym.out.1.trans ho)).1,⟨ae hl,ae hl⟩,ae hr,ae hr⟩
 have HD:Hid (Only (fun _=>False) w8 w8.drew):=(Only.refl _ _).drew
 refine wp_region_held_drew (S:=(fun W'=>(W'.cell? ⟨R,0,none⟩=some (.slice aC cl cC)∧W'.cell? ⟨R,1,none⟩=some (.int .u32 jn)∧W'.cell? ⟨R,2,none⟩=some (.int .u32 af)∧W'.cell? ⟨R,3,none⟩=some (.slice aT cl cT)∧W'.cell? ⟨R,4,none⟩=some (.slice aL n cL))∧(W'.cell? ⟨lb,0,none⟩=some (.slice aX nX kX)∧W'.cell? ⟨lb,1,none⟩=some (.slice aY nY kY))∧(W'.cell? ⟨rb,0,none⟩=some (.slice aZ nZ kZ)∧W'.cell? ⟨rb,1,none⟩=some (.slice aW nW kW)))) (by kernel_rfl) (Uf.out _ HD.out) (fun hHeld=>?_)
 refine D7 (i:=0) (oi:=⟨some 51,_,_,_,_,_⟩) (v:=.pointer (some ⟨R,1,none⟩)) rfl ?_
 (try simp only [Act.put,zA,zB,zC])
 refine D7 (i:=1) (oi:=⟨some 52,_,_,_,_,_⟩) (v:=.int .u32 jn) rfl ?_
 (try simp only [Act.put,zA,zB,zC])
 refine D7 (i:=2) (oi:=⟨some 53,_,_,_,_,_⟩) (v:=.pointer (some ⟨R,2,none⟩)) rfl ?_
 (try simp only [Act.put,zA,zB,zC])
 refine D7 (i:=3) (oi:=⟨some 54,_,_,_,_,_⟩) (v:=.int .u32 af) rfl ?_
 (try simp only [Act.put,zA,zB,zC])
 refine D7 (i:=4) (oi:=⟨some 55,_,_,_,_,_⟩) (v:=.pointer (some ⟨R,3,none⟩)) rfl ?_
 (try simp only [Act.put,zA,zB,zC])
 refine D7 (i:=5) (oi:=⟨some 56,_,_,_,_,_⟩) (v:=.slice aT cl cT) rfl ?_
 (try simp only [Act.put,zA,zB,zC])
 refine D7 (i:=6) (oi:=⟨some 57,_,_,_,_,_⟩) (v:=.int .i64 (cl:Int)) rfl ?_
 (try simp only [Act.put,zA,zB,zC])
 refine D7 (i:=8) (oi:=⟨some 59,_,_,_,_,_⟩) (v:=.pointer (some ⟨R,4,none⟩)) rfl ?_
 (try simp only [Act.put,zA,zB,zC])
 refine D7 (i:=9) (oi:=⟨some 60,_,_,_,_,_⟩) (v:=.slice aL n cL) rfl ?_
 (try simp only [Act.put,zA,zB,zC])
 refine D7 (i:=11) (oi:=⟨some 62,_,_,_,_,_⟩) (v:=.agg #[.slice aX nX kX,.slice aY nY kY]) rfl ?_
 (try simp only [Act.put,zA,zB,zC])
 refine D7 (i:=12) (oi:=⟨some 63,_,_,_,_,_⟩) (v:=.agg #[.slice aZ nZ kZ,.slice aW nW kW]) rfl ?_
 (try simp only [Act.put,zA,zB,zC])
 refine wpAnyH_ready (rs:=[7]) (by kernel_rfl) (by simp) ?_
 refine AllReadyH.cons rfl (fun K hK=>?_) AllReadyH.nil
 rw [if_pos (by rfl)]
 go_simp
 refine Calls.mono (NZ.out _ (Ym.out.2.trans HD.out)) ?_
 rintro e y1 ⟨bT,rfl,VT,ho⟩
 have G1:Hid (Ib y1 bT (s.au.map (fun x=>fF x cl))∧Only (fun _=>False) w8 y1):=⟨VT,HD.out.trans ho⟩
 clear VT ho
 refine hK.out _ _ (Uf.out _ G1.out.2) (fun hHeld=>?_)
 clear hK
 (try simp only [Act.put,zA,zB,zC])
 refine wpAnyH_ready (rs:=[10]) (by kernel_rfl) (by simp) ?_
 refine AllReadyH.cons rfl (fun K hK=>?_) AllReadyH.nil
 rw [if_pos (by rfl)]
 go_simp
 refine Calls.mono (HDO.out _ (Ym.out.2.trans G1.out.2)) ?_
 rintro e y2 ⟨bD,rfl,hbD,ho⟩
 have G2:Hid (Ub y2 bD (s.list.map (·.does))∧Only (fun _=>False) y1 y2∧Only (fun _=>False) w8 y2):=⟨hbD,ho,G1.out.2.trans ho⟩
 clear hbD ho
 refine hK.out _ _ (Uf.out _ G2.out.2.2) (fun hHeld=>?_)
 clear hK
 (try simp only [Act.put,zA,zB,zC])
 refine D7 (i:=13) (oi:=⟨some 64,_,_,_,_,_⟩) (v:=.agg #[.int .u32 jn,.int .u32 af,.slice (some ⟨bT,0,none⟩) cl cl,.slice (some ⟨bD,0,none⟩) n n,.slice aX nX kX,.slice aY nY kY,.slice aZ nZ kZ,.slice aW nW kW]) rfl ?_
 (try simp only [Act.put,zA,zB,zC])
 refine wpAnyH_ready (rs:=[14]) (by kernel_rfl) (by simp) ?_
 refine AllReadyH.cons rfl (fun K hK=>?_) AllReadyH.nil
 rw [if_pos (by rfl)]
 go_simp
 obtain⟨y3,hy3⟩:∃Z,Z=y2.alloc (.cells #[.int .u32 jn,.int .u32 af,.slice (some ⟨bT,0,none⟩) cl cl,.slice (some ⟨bD,0,none⟩) n n,.slice aX nX kX,.slice aY nY kY,.slice aZ nZ kZ,.slice aW nW kW] 73):=⟨_,rfl⟩
 obtain⟨mb,hmb⟩:∃z,z=y2.heap.size:=⟨_,rfl⟩
 have G3:Hid (Mz y3 mb jn af (.slice (some ⟨bT,0,none⟩) cl cl) (.slice (some ⟨bD,0,none⟩) n n) (.slice aX nX kX) (.slice aY nY kY) (.slice aZ nZ kZ) (.slice aW nW kW)∧Only (fun _=>False) y2 y3∧Only (fun _=>False) w8 y3):=by rw [hy3,hmb];exact⟨heap_alloc_new _ _,(Only.refl _ _).alloc _,G2.out.2.2.alloc _⟩
 rw [←hy3,←hmb]
 clear hy3 hmb
 refine hK.out _ _ (Uf.out _ G3.out.2.2) (fun hHeld=>?_)
 clear hK
 (try simp only [Act.put,zA,zB,zC])
 refine D7 (i:=15) (oi:=⟨some 2,_,_,_,_,_⟩) (v:=.pointer (some ⟨mb,0,none⟩)) rfl ?_
 (try simp only [Act.put,zA,zB,zC])
 refine D7 (i:=16) (oi:=⟨some 3,_,_,_,_,_⟩) (v:=.int .i64 0) rfl ?_
 (try simp only [Act.put,zA,zB,zC])
 refine wpAnyH_done (by kernel_rfl) ?_ _
 clear hHeld
 go_wp2_with fail
 go_ret2
 have q28:L.Only (fun _=>False) w2 y3:=fI (H3.out.2.trans (Yl.out.trans G3.out.2.2))
 have q78:L.Only (fun _=>False) w7 y3:=fI (H8.out.2.trans G3.out.2.2)
 have s1:w.heap.size≤w1.heap.size:=(H0.out.2.trans H1.out.2.2).size
 have s6:w.heap.size≤w6.heap.size:=Nat.le_trans s1 (Nat.le_trans (H2.out.2.2.trans (H3.out.2.trans (H5.out.trans H6.out.2))).size (Nat.le_refl _))
 exact Or.inr ⟨nL,oL,nR,oR,BN.out,HMk.out,mb,bT,bD,_,_,_,_,aD,aA,rL,aH,aG,rR,rfl,by rw [←HJ.out.1,←HJ.out.2];exact G3.out.1,Ib.dG G1.out.1 (G2.out.2.1.trans G3.out.2.1),Ub.dG G2.out.1 G3.out.2.1,(H2.out.1.keep q28).low s1,H2.out.2.1,(H7.out.1.keep q78).low s6,H7.out.2.1,Ym.out.2.trans G3.out.2.2⟩
theorem jQ {P:Program} {fn:Func} {p u:Tmp} {ty:TypeId} (h:fn.results=#[.tmp u,.cell p ty]) (tmps:Array Value) (w:World) (g:Nat) (t:TypeId) (cs:Array Value) (fr:Nat × Nat) (d:TypeDesc)
  (hp:tmps.getD p undef=.pointer (some ⟨g,0,none⟩)) (hg:w.heap[g]?=some (.cells cs t fr)) (hu:P.underlying ty=some d) (hd:(match d with | .struct _ | .array _ _=>true | _=>false)=true) (hi:(P.info? ty).map (·.size)=some cs.size)
  {y:Value} (hy:tmps.getD u undef=y):(results fn tmps).run P w=.ok (.tuple #[y,.agg cs]) w:=by
 have hp':tmps[p]?.getD undef=.pointer (some ⟨g,0,none⟩):=by simpa using hp
 have hy':tmps[u]?.getD undef=y:=by simpa using hy
 simp [results,h,hp',hy',asAddr,run_loadVar_row w g t ty cs fr d hg hu hd hi]
def qC (W:World) (lo mb:Nat) (s:Rl.St) (cl n:Nat) (nL:List (List Nat)) (oL:List Nat) (nR:List (List Nat)) (oR:List Nat):Prop:=
 ∃bT bD lN lO rN rO aD aA rL aH aG rR,Mz W mb s.join s.after (.slice (some ⟨bT,0,none⟩) cl cl) (.slice (some ⟨bD,0,none⟩) n n) lN lO rN rO∧Ib W bT (s.au.map (fun x=>fF x cl))∧Ub W bD (s.list.map (·.does))∧L.Ra W lo (.agg #[lN,lO]) aD aA∧L.Hm.iq nL.length cl (dX nL) (oX oL) aD aA rL∧L.Ra W lo (.agg #[rN,rO]) aH aG∧L.Hm.iq nR.length cl (dX nR) (oX oR) aH aG rR
theorem qC.keep {W W':World} {lo mb:Nat} {s:Rl.St} {cl n:Nat} {nL:List (List Nat)} {oL:List Nat} {nR:List (List Nat)} {oR:List Nat} (h:qC W lo mb s cl n nL oL nR oR) (ho:Only (fun _=>False) W W'):qC W' lo mb s cl n nL oL nR oR:=by
 obtain⟨bT,bD,lN,lO,rN,rO,aD,aA,rL,aH,aG,rR,h1,h2,h3,h4,h5,h6,h7⟩:=h
 exact⟨bT,bD,lN,lO,rN,rO,aD,aA,rL,aH,aG,rR,(ho.block mb (Array.getElem?_eq_some_iff.1 h1).1 (fun h=>h)).trans h1,h2.dG ho,h3.dG ho,h4.keep (fI ho),h5,h6.keep (fI ho),h7⟩
theorem qC.low {W:World} {lo lo' mb:Nat} {s:Rl.St} {cl n:Nat} {nL:List (List Nat)} {oL:List Nat} {nR:List (List Nat)} {oR:List Nat} (h:qC W lo mb s cl n nL oL nR oR) (hl:lo'≤lo):qC W lo' mb s cl n nL oL nR oR:=by
 obtain⟨bT,bD,lN,lO,rN,rO,aD,aA,rL,aH,aG,rR,h1,h2,h3,h4,h5,h6,h7⟩:=h
 exact⟨bT,bD,lN,lO,rN,rO,aD,aA,rL,aH,aG,rR,h1,h2,h3,h4.low hl,h5,h6.low hl,h7⟩
theorem ou {W:World} {b q:Nat} {c c':Array Value} {t t':TypeId} (h:W.heap[b]?=some (.cells c t (0,0))) (h':W.heap[q]?=some (.cells c' t' (0,0))) (ht:t≠t'):b≠q:=fun e=>by
 subst e
 rw [h] at h'
 injection h' with h'
 injection h' with _ h'
 exact ht h'
theorem qC.aan {W:World} {lo mb q:Nat} {s:Rl.St} {cl n:Nat} {nL:List (List Nat)} {oL:List Nat} {nR:List (List Nat)} {oR:List Nat} {c:Array Value} (h:qC W lo mb s cl n nL oL nR oR) (hq:W.heap[q]?=some (.cells c 49 (0,0))) (hl:q < lo) (u v:Value):qC ((W.setCell ⟨q,0,none⟩ u).setCell ⟨q,1,none⟩ v) lo mb s cl n nL oL nR oR:=by
 obtain⟨bT,bD,lN,lO,rN,rO,aD,aA,rL,aH,aG,rR,h1,h2,h3,h4,h5,h6,h7⟩:=h
 have n1:=ou h1 hq (by decide)
 have n2:=ou h2 hq (by decide)
 have n3:=ou h3 hq (by decide)
 have ho:L.Only (fun b=>b=q) W ((W.setCell ⟨q,0,none⟩ u).setCell ⟨q,1,none⟩ v):=((L.Only.refl (fun b=>b=q) W).setCell (p:=⟨q,0,none⟩) rfl u).setCell (p:=⟨q,1,none⟩) rfl v
 exact⟨bT,bD,lN,lO,rN,rO,aD,aA,rL,aH,aG,rR,(Below.heap_setCell _ _ _ _ n1).trans ((Below.heap_setCell _ _ _ _ n1).trans h1),(Below.heap_setCell _ _ _ _ n2).trans ((Below.heap_setCell _ _ _ _ n2).trans h2),(Below.heap_setCell _ _ _ _ n3).trans ((Below.heap_setCell _ _ _ _ n3).trans h3),h4.stay ho (fun b hb=>by subst hb;exact hl),h5,h6.stay ho (fun b hb=>by subst hb;exact hl),h7⟩
theorem Lc {w:World} {s:Rl.St} {cl n:Nat} {nL:List (List Nat)} {oL:List Nat} {nR:List (List Nat)} {oR:List Nat} {e:Ending} {w':World} (h:Yj w s cl n nL oL nR oR e w'):∃mb,e=.returned (.tuple #[.pointer (some ⟨mb,0,none⟩),.int .i64 0])∧qC w' w.heap.size mb s cl n nL oL nR oR∧Only (fun _=>False) w w':=by
 obtain⟨mb,bT,bD,lN,lO,rN,rO,aD,aA,rL,aH,aG,rR,h0,h1,h2,h3,h4,h5,h6,h7,h8⟩:=h
 exact⟨mb,h0,⟨bT,bD,lN,lO,rN,rO,aD,aA,rL,aH,aG,rR,h1,h2,h3,h4,h5,h6,h7⟩,h8⟩
def Tq (w:World) (s:Rl.St) (cl n:Nat) (e:Ending) (w':World):Prop:=(∃c,e=.returned (.tuple #[.pointer none,.agg #[.int .i64 c,.int .i64 0]])∧c≠0∧Bad s cl∧Only (fun _=>False) w w')∨(∃mb nL oL nR oR,e=.returned (.tuple #[.pointer (some ⟨mb,0,none⟩),.agg #[.int .i64 0,.int .i64 0]])∧Au.make (s.list.map (·.left)) (cl:Int)=.ok (nL,oL)∧Au.make (Au.turns (s.list.map (·.right))) (cl:Int)=.ok (nR,oR)∧qC w' (w.heap.size+1) mb s cl n nL oL nR oR∧Only (fun _=>False) w w')
theorem kQ (S:ByteArray) (s:Rl.St) (cl n:Nat) (w:World) (hr:rd S (.ok s)) (hcl:cl=s.cls.length) (hn:n=s.list.length) (h0:0 < cl) (hS:∀r∈s.list,Rl.Small r.left∧Rl.Small r.right∧wY r.left∧wY r.right) (hD:∀r∈s.list,Au.dp r.left≤100∧Au.dp r.right≤100):
  Calls Tryz.prog 10 #[.string S] w (Tq w s cl n):=by
 have HPS:Hid (∀W',Calls Tryz.prog 17 #[.string S] W' fun e w'=>∃v B,e=.returned (.tuple #[v,.agg #[.int .i64 0,.int .i64 0]])∧Rv w' B v s∧Only (fun _=>False) W' w'):=fun W'=>(Gs S (.ok s) W' hr).mono (by
  rintro e w' ⟨⟨v,B,h1,_,h2⟩,h3⟩
  exact⟨v,B,h1,h2,h3⟩)
 have EG:Hid (∀W' v B,Rv W' B v s→Calls Tryz.prog 18 #[v] W' (WI W' s cl n)):=fun W' v B hv=>A9 s B v cl n W' hv hcl hn h0 hS hD
 clear hr hcl hn h0 hS hD
 go_enter Tryz.func10,Tryz.ntmps10
 go_upto_region 1 with fail
 obtain⟨qb,Ld⟩:∃x,x=w.heap.size:=⟨_,rfl⟩
 obtain⟨w0,hw0⟩:∃x,x=w.alloc (.cells #[.int .i64 0,.int .i64 0] 49):=⟨_,rfl⟩
 have H0:Hid (w0.heap[qb]?=some (.cells #[.int .i64 0,.int .i64 0] 49 (0,0))∧Only (fun _=>False) w w0∧w0.heap.size=w.heap.size+1∧qb=w.heap.size):=by rw [hw0,Ld];exact⟨heap_alloc_new _ _,(Only.refl _ _).alloc _,eQ _ _,rfl⟩
 rw [←hw0,←Ld]
 clear hw0 Ld
 go_wp2_with fail
 refine Calls.mono (HPS.out _) ?_
 rintro e w1 ⟨v,B,rfl,hrv,ho1⟩
 have WK:=hrv
 obtain⟨aC,aT,aL,cC,cT,cL,rfl,-⟩:=hrv
 have H1:Hid (Rv w1 B (.agg #[.slice aC s.cls.length cC,.int .u32 s.join,.int .u32 s.after,.slice aT s.au.length cT,.slice aL s.list.length cL]) s∧Only (fun _=>False) w0 w1):=⟨WK,ho1⟩
 obtain⟨u0,hu0⟩:∃x,x=s.cls.length:=⟨_,rfl⟩
 obtain⟨u1,hu1⟩:∃x,x=s.join:=⟨_,rfl⟩
 obtain⟨u2,hu2⟩:∃x,x=s.after:=⟨_,rfl⟩
 obtain⟨u3,hu3⟩:∃x,x=s.au.length:=⟨_,rfl⟩
 obtain⟨u4,hu4⟩:∃x,x=s.list.length:=⟨_,rfl⟩
 rw [←hu0,←hu1,←hu2,←hu3,←hu4] at H1 ⊢
 clear WK ho1 hu0 hu1 hu2 hu3 hu4
 go_upto_region 2 with fail
 obtain⟨R5,h_⟩:∃x,x=w1.heap.size:=⟨_,rfl⟩
 obtain⟨F2,hF2⟩:∃x,x=w1.heap.size+1:=⟨_,rfl⟩
 obtain⟨w2,hw2⟩:∃x,x=(w1.alloc (.cells #[.slice aC u0 cC,.int .u32 u1,.int .u32 u2,.slice aT u3 cT,.slice aL u4 cL] 35)).alloc (.cells #[.int .i64 0,.int .i64 0] 49):=⟨_,rfl⟩
 have H2:Hid (Xr w2 R5 (.slice aC u0 cC) (.int .u32 u1) (.int .u32 u2) (.slice aT u3 cT) (.slice aL u4 cL)∧w2.heap[F2]?=some (.cells #[.int .i64 0,.int .i64 0] 49 (0,0))∧Only (fun _=>False) w1 w2):=by
  rw [hw2,h_,hF2]
  exact⟨(Xr.new w1 _ _ _ _ _).alloc _,heap_alloc2_new w1 _ _,((Only.refl _ _).alloc _).alloc _⟩
 rw [←hw2,←hF2,←h_]
 clear hw2 hF2 h_
 have r0:=H2.out.1.c0
 have r1:=H2.out.1.c1
 have r2:=H2.out.1.c2
 have r3:=H2.out.1.c3
 have r4:=H2.out.1.c4
 have lR:R5 < w2.heap.size:=(Array.getElem?_eq_some_iff.1 H2.out.1).1
 have f0:w2.cell? ⟨F2,0,none⟩=some (.int .i64 0):=ae H2.out.2.1
 have lF:F2 < w2.heap.size:=(Array.getElem?_eq_some_iff.1 H2.out.2.1).1
 have Uj:Hid (Rv w2 B (.agg #[.slice aC u0 cC,.int .u32 u1,.int .u32 u2,.slice aT u3 cT,.slice aL u4 cL]) s):=H1.out.1.only H2.out.2.2 (fun _ _ h=>h)
 go_wp2_with fail
 refine Calls.mono (EG.out _ _ _ Uj.out) ?_
 rintro e w3 (⟨c,rfl,hc,hbad,ho3⟩ | ⟨nL,oL,nR,oR,hL,hR,hmk⟩)
 ·have hq:w3.heap[qb]?=some (.cells #[.int .i64 0,.int .i64 0] 49 (0,0)):=((H1.out.2.trans (H2.out.2.2.trans ho3)).block qb (Array.getElem?_eq_some_iff.1 H0.out.1).1 (fun h=>h)).trans H0.out.1
  have HB:=zH hbad
  clear hbad
  have H3:Hid (Only (fun _=>False) w w3∧w3.heap[qb]?=some (.cells #[.int .i64 0,.int .i64 0] 49 (0,0))∧w.heap.size≤qb):=⟨H0.out.2.1.trans (H1.out.2.trans (H2.out.2.2.trans ho3)),hq,Nat.le_of_eq H0.out.2.2.2.symm⟩
  have x0:w3.cell? ⟨qb,0,none⟩=some (.int .i64 0):=ae hq
  have x1:w3.cell? ⟨qb,1,none⟩=some (.int .i64 0):=ae hq
  have z0:w3.frozen? ⟨qb,0,none⟩=false:=ak hq 0
  have z1:w3.frozen? ⟨qb,1,none⟩=false:=ak hq 1
  have lq:qb < w3.heap.size:=(Array.getElem?_eq_some_iff.1 hq).1
  clear ho3 hq r0 r1 r2 r3 r4 lR f0 lF
  go_wp2_with fail
  refine bodyPost_ret (v:=.tuple #[.pointer none,.agg #[.int .i64 c,.int .i64 0]]) (jQ (p:=3) (u:=2) (ty:=49) rfl _ _ qb 49 #[.int .i64 c,.int .i64 0] (0,0) _ rfl (aa (k:=1) (aa (k:=0) H3.out.2.1 _) _) Tryz.underlying49 rfl (by kernel_rfl) rfl) rfl (Or.inl ⟨c,rfl,hc,HB.out,?_⟩)
  exact (H3.out.1.aS (p:=⟨qb,0,none⟩) H3.out.2.2 _).aS (p:=⟨qb,1,none⟩) H3.out.2.2 _
 obtain⟨mb,rfl,Lh,ho3⟩:=Lc hmk
 have HLR:Hid (Au.make (s.list.map (·.left)) (cl:Int)=.ok (nL,oL)∧Au.make (Au.turns (s.list.map (·.right))) (cl:Int)=.ok (nR,oR)):=⟨hL,hR⟩
 clear hL hR hmk
 have hq:w3.heap[qb]?=some (.cells #[.int .i64 0,.int .i64 0] 49 (0,0)):=((H1.out.2.trans (H2.out.2.2.trans ho3)).block qb (Array.getElem?_eq_some_iff.1 H0.out.1).1 (fun h=>h)).trans H0.out.1
 have H3:Hid (qC w3 w2.heap.size mb s cl n nL oL nR oR∧Only (fun _=>False) w w3∧w3.heap[qb]?=some (.cells #[.int .i64 0,.int .i64 0] 49 (0,0))∧w.heap.size+1≤w2.heap.size):=⟨Lh,H0.out.2.1.trans (H1.out.2.trans (H2.out.2.2.trans ho3)),hq,by rw [←H0.out.2.2.1];exact (H1.out.2.trans H2.out.2.2).size⟩
 have x0:w3.cell? ⟨qb,0,none⟩=some (.int .i64 0):=ae hq
 have x1:w3.cell? ⟨qb,1,none⟩=some (.int .i64 0):=ae hq
 have z0:w3.frozen? ⟨qb,0,none⟩=false:=ak hq 0
 have z1:w3.frozen? ⟨qb,1,none⟩=false:=ak hq 1
 have lq:qb < w3.heap.size:=(Array.getElem?_eq_some_iff.1 hq).1
 clear Lh ho3 hq r0 r1 r2 r3 r4 lR f0 lF
 go_wp2_with fail
 refine bodyPost_ret (v:=.tuple #[.pointer (some ⟨mb,0,none⟩),.agg #[.int .i64 0,.int .i64 0]]) (jQ (p:=3) (u:=2) (ty:=49) rfl _ _ qb 49 #[.int .i64 0,.int .i64 0] (0,0) _ rfl (aa (k:=1) (aa (k:=0) H3.out.2.2.1 _) _) Tryz.underlying49 rfl (by kernel_rfl) rfl) rfl (Or.inr ⟨mb,nL,oL,nR,oR,rfl,HLR.out.1,HLR.out.2,?_,?_⟩)
 ·exact (H3.out.1.aan H3.out.2.2.1 (by have:=H0.out.2.2.2;have:=H3.out.2.2.2;omega) _ _).low H3.out.2.2.2
 ·have hqw:w.heap.size≤qb:=Nat.le_of_eq H0.out.2.2.2.symm
  exact (H3.out.2.1.aS (p:=⟨qb,0,none⟩) hqw _).aS (p:=⟨qb,1,none⟩) hqw _
end Go.Proofs.YtdlabakleldgaaaGreatDoor
