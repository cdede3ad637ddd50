/- Mch Next -/
import Derived.Test.YtchaoonefiamdaaGreatDoorZ00
import Derived.Test.YtchaoonefiamdaaGreatDoorZ01
namespace Go.Proofs.YtchaoonefiamdaaGreatDoor
set_option linter.unusedVariables false
set_option linter.unusedSimpArgs false
namespace Au
open Rl (Ex)
structure Fr where
  op:Int
  left:List Ex
  nd:Nd
def begin':Ex→Pl→Option (Fr × Pl)
  | .mk op set kids,p =>
    if op=1 then (if p.sets.length=200 then none else some (⟨1,[],⟨false,2 ^ p.sets.length,2 ^ p.sets.length⟩⟩,{ p with sets:=p.sets++[set] }))
    else if op=2 then some (⟨2,kids,⟨true,0,0⟩⟩,p)
    else if op=3 then some (⟨3,kids,⟨false,0,0⟩⟩,p)
    else if op=4 then some (⟨4,kids.take 1,⟨true,0,0⟩⟩,p)
    else if op=5 then some (⟨5,kids.take 1,⟨false,0,0⟩⟩,p)
    else if op=6 then some (⟨6,kids.take 1,⟨true,0,0⟩⟩,p)
    else some (⟨op,[],⟨true,0,0⟩⟩,p)
def fin (f:Fr) (p:Pl):Pl:=if f.op=4∨f.op=5 then chain p f.nd.last f.nd.first else p
def tkN (op:Int) (o x:Nd):Nd:=if op=2 then seq1 o x else alt1 o x
def tkP (op:Int) (o x:Nd) (p:Pl):Pl:=if op=2 then chain p o.last x.first else p
def mach:Nat→List Fr→Pl→Option (Option (Nd × Pl))
  | 0,_,_=>none
  | _+1,[],_=>none
  | n+1,f :: fs,p=>match f.left with
    | k :: ks=>match begin' k p with
      | none=>some none
      | some (g,p1)=>mach n (g :: ⟨f.op,ks,f.nd⟩ :: fs) p1
    | []=>match fs with
      | []=>some (some (f.nd,fin f p))
      | g :: gs=>mach n (⟨g.op,g.left,tkN g.op g.nd f.nd⟩ :: gs) (tkP g.op g.nd f.nd (fin f p))
def kf (op:Int):List Ex→Nd→Pl→Option (Nd × Pl)
  | [],o,p=>some (o,p)
  | e :: es,o,p=>match node e p with
    | none=>none
    | some (x,p1)=>kf op es (tkN op o x) (tkP op o x p1)
theorem kf_seqs:∀ (es:List Ex) (o:Nd) (p:Pl),kf 2 es o p=seqs es o p
  | [],o,p=>by simp [kf,seqs]
  | e :: es,o,p=>by
    simp only [kf,seqs]
    cases h:node e p with
    | none=>rfl
    | some r=>exact kf_seqs es _ _
theorem kf_alts:∀ (es:List Ex) (o:Nd) (p:Pl),kf 3 es o p=alts es o p
  | [],o,p=>by simp [kf,alts]
  | e :: es,o,p=>by
    simp only [kf,alts]
    cases h:node e p with
    | none=>rfl
    | some r=>exact kf_alts es _ _
theorem alt_true (x:Nd):alt1 ⟨true,0,0⟩ x=⟨true,x.first,x.last⟩:=by simp [alt1]
theorem alt_false (x:Nd):alt1 ⟨false,0,0⟩ x=x:=by simp [alt1]
theorem kf_one {op:Int} (hop:op≠2) (kids:List Ex) (b:Bool) (p:Pl):kf op (kids.take 1) ⟨b,0,0⟩ p=match one kids p with | none=>none | some (x,p1)=>some (alt1 ⟨b,0,0⟩ x,p1):=by
  cases kids with
  | nil=>cases b <;> simp [kf,one,alt1]
  | cons e es =>
    simp only [List.take_succ_cons,List.take_zero,kf,one]
    cases node e p with
    | none=>rfl
    | some r=>simp [tkN,tkP,hop]
theorem node_begin (e:Ex) (p:Pl):node e p=match begin' e p with
    | none=>none
    | some (g,p1)=>match kf g.op g.left g.nd p1 with
      | none=>none
      | some (x,p2)=>some (x,fin ⟨g.op,[],x⟩ p2):=by
  obtain ⟨op,set,kids⟩:=e
  unfold node begin'
  dsimp only
  by_cases o1:op=1
  · rw [if_pos o1,if_pos o1]
    split
    · rfl
    · simp [kf,fin]
  rw [if_neg o1,if_neg o1]
  by_cases o2:op=2
  · rw [if_pos o2,if_pos o2]
    simp only [kf_seqs]
    cases seqs kids ⟨true,0,0⟩ p with
    | none=>rfl
    | some r=>simp [fin]
  rw [if_neg o2,if_neg o2]
  by_cases o3:op=3
  · rw [if_pos o3,if_pos o3]
    simp only [kf_alts]
    cases alts kids ⟨false,0,0⟩ p with
    | none=>rfl
    | some r=>simp [fin]
  rw [if_neg o3,if_neg o3]
  by_cases o4:op=4
  · rw [if_pos o4,if_pos o4]
    simp only [kf_one (show (4:Int)≠2 by decide)]
    cases one kids p with
    | none=>rfl
    | some r=>simp [fin,alt_true]
  rw [if_neg o4,if_neg o4]
  by_cases o5:op=5
  · rw [if_pos o5,if_pos o5]
    simp only [kf_one (show (5:Int)≠2 by decide)]
    cases one kids p with
    | none=>rfl
    | some r=>simp [fin,alt_false]
  rw [if_neg o5,if_neg o5]
  by_cases o6:op=6
  · rw [if_pos o6,if_pos o6]
    simp only [kf_one (show (6:Int)≠2 by decide)]
    cases one kids p with
    | none=>rfl
    | some r=>simp [fin,alt_true]
  rw [if_neg o6,if_neg o6]
  simp [kf,fin,o4,o5]
def Kid (e:Ex):Prop:=∀ (p:Pl) (op:Int) (o:Nd) (ks:List Ex) (fs:List Fr),∃ m,∀ n,mach (m+n) (⟨op,e :: ks,o⟩ :: fs) p=match node e p with
  | none=>some none
  | some (x,p1)=>mach n (⟨op,ks,tkN op o x⟩ :: fs) (tkP op o x p1)
theorem kids_all:∀ (es:List Ex),(∀ e∈es,Kid e)→∀ (op:Int) (o:Nd) (p:Pl) (fs:List Fr),∃ m,∀ n,mach (m+n) (⟨op,es,o⟩ :: fs) p=match kf op es o p with
    | none=>some none
    | some (x,p1)=>mach n (⟨op,[],x⟩ :: fs) p1
  | [],_,op,o,p,fs=>⟨0,fun n=>by simp [kf]⟩
  | e :: es,h,op,o,p,fs=>by
    obtain ⟨m1,h1⟩:=h e (by simp) p op o es fs
    simp only [kf]
    cases hn:node e p with
    | none =>
      refine ⟨m1,fun n=>?_⟩
      rw [h1,hn]
    | some r =>
      obtain ⟨x,p1⟩:=r
      obtain ⟨m2,h2⟩:=kids_all es (fun e he=>h e (by simp [he])) op (tkN op o x) (tkP op o x p1) fs
      refine ⟨m1+m2,fun n=>?_⟩
      rw [Nat.add_assoc,h1,hn]
      exact h2 n
theorem begin_left (e:Ex) (p:Pl) (g:Fr) (p1:Pl) (h:begin' e p=some (g,p1)):∃ op set kids,e=.mk op set kids∧∀ k∈g.left,k∈kids:=by
  obtain ⟨op,set,kids⟩:=e
  refine ⟨op,set,kids,rfl,?_⟩
  unfold begin' at h
  dsimp only at h
  have ht:∀ k∈kids.take 1,k∈kids:=fun k hk=>List.mem_of_mem_take hk
  repeat' split at h
  all_goals first
    | (cases h;done)
    | (injection h with h;injection h with h _;subst h;first | exact fun k hk=>hk | exact ht | simp)
theorem kid_any:∀ (e:Ex),Kid e:=by
  intro e
  apply Ex.rec (motive_1:=fun e=>Kid e) (motive_2:=fun es=>∀ e∈es,Kid e)
  · intro op set kids ih p op' o ks fs
    cases hb:begin' (.mk op set kids) p with
    | none =>
      refine ⟨1,fun n=>?_⟩
      rw [node_begin,hb,Nat.add_comm 1 n]
      simp only [mach,hb]
    | some r =>
      obtain ⟨g,p1⟩:=r
      obtain ⟨_,_,kids',hk,hl⟩:=begin_left _ _ _ _ hb
      injection hk with _ _ hk
      subst hk
      obtain ⟨m,hm⟩:=kids_all g.left (fun e he=>ih e (hl e he)) g.op g.nd p1 (⟨op',ks,o⟩ :: fs)
      have hs:∀ N,mach (N+1) (⟨op',.mk op set kids :: ks,o⟩ :: fs) p=mach N (g :: ⟨op',ks,o⟩ :: fs) p1:=fun N=>by simp only [mach,hb]
      have hx:node (.mk op set kids) p=match kf g.op g.left g.nd p1 with
          | none=>none
          | some (x,p2)=>some (x,fin ⟨g.op,[],x⟩ p2):=by rw [node_begin,hb]
      cases hkf:kf g.op g.left g.nd p1 with
      | none =>
        refine ⟨m+1,fun n=>?_⟩
        rw [show m+1+n=(m+n)+1 by omega,hs,hx,hkf]
        have:=hm n
        rw [hkf] at this
        exact this
      | some r2 =>
        obtain ⟨x,p2⟩:=r2
        refine ⟨m+1+1,fun n=>?_⟩
        rw [show m+1+1+n=(m+(n+1))+1 by omega,hs,hx,hkf]
        have:=hm (n+1)
        rw [hkf] at this
        exact this
  · intro e he
    cases he
  · intro e es he hes k hk
    rcases List.mem_cons.1 hk with rfl | hk
    · exact he
    · exact hes k hk
theorem mach_all (e:Ex) (p:Pl):∃ m,mach m [⟨3,[e],⟨false,0,0⟩⟩] p=some (node e p):=by
  obtain ⟨m,h⟩:=kid_any e p 3 ⟨false,0,0⟩ [] []
  refine ⟨m+1,?_⟩
  rw [h]
  cases node e p with
  | none=>rfl
  | some r =>
    obtain ⟨x,p1⟩:=r
    have e1:tkN 3 ⟨false,0,0⟩ x=x:=by rw [tkN,if_neg (by decide),alt_false]
    have e2:tkP 3 ⟨false,0,0⟩ x p1=p1:=by rw [tkP,if_neg (by decide)]
    simp only [e1,e2,mach,fin]
    rfl
mutual
def dp:Ex→Nat
  | .mk _ _ kids=>1+dps kids
def dps:List Ex→Nat
  | []=>0
  | e :: es=>max (dp e) (dps es)
end
theorem dps_mem:∀ (es:List Ex) (e:Ex),e∈es→dp e≤dps es
  | e0 :: es,e,h=>by
    unfold dps
    rcases List.mem_cons.1 h with rfl | h
    · omega
    · have:=dps_mem es e h;omega
theorem dps_le:∀ (es:List Ex) (n:Nat),(∀ e∈es,dp e≤n)→dps es≤n
  | [],n,_=>by simp [dps]
  | e :: es,n,h=>by
    unfold dps
    have h1:=h e (by simp)
    have h2:=dps_le es n (fun x hx=>h x (by simp [hx]))
    omega
def Hg (D:Nat):List Fr→Prop
  | []=>True
  | f :: fs=>fs.length+1+dps f.left≤D∧Hg D fs
theorem Hg.len {D:Nat}:∀ {fs:List Fr},Hg D fs→fs.length≤D
  | [],_=>Nat.zero_le _
  | f :: fs,h=>by have:=h.1;simp only [List.length_cons];omega
theorem Hg.push {D:Nat} {op:Int} {k:Ex} {ks:List Ex} {o:Nd} {fs:List Fr} (h:Hg D (⟨op,k :: ks,o⟩ :: fs)) {p p1:Pl} {g:Fr} (hb:begin' k p=some (g,p1)):Hg D (g :: ⟨op,ks,o⟩ :: fs):=by
  obtain ⟨h1,h2⟩:=h
  obtain ⟨op',set,kids,rfl,hl⟩:=begin_left _ _ _ _ hb
  have hd:dps g.left≤dps kids:=dps_le _ _ (fun e he=>dps_mem _ _ (hl e he))
  unfold dps at h1
  unfold dp at h1
  refine ⟨?_,?_,h2⟩
  · simp only [List.length_cons];omega
  · simp only;omega
theorem Hg.pop {D:Nat} {f g:Fr} {gs:List Fr} (h:Hg D (f :: g :: gs)) (o:Nd):Hg D (⟨g.op,g.left,o⟩ :: gs):=⟨h.2.1,h.2.2⟩
def Iv (fs:List Fr) (p:Pl):Prop:=OkP p∧p.sets.length≤200∧∀ f∈fs,OkN p f.nd
theorem OkN.mono {p p1:Pl} {x:Nd} (h:OkN p x) (hl:p.sets.length≤p1.sets.length):OkN p1 x:=⟨Nat.lt_of_lt_of_le h.1 (pow_le hl),Nat.lt_of_lt_of_le h.2 (pow_le hl)⟩
theorem begin_ok {e:Ex} {p p1:Pl} {g:Fr} (h:begin' e p=some (g,p1)) (hp:OkP p) (hl:p.sets.length≤200):OkP p1∧p1.sets.length≤200∧OkN p1 g.nd∧p.sets.length≤p1.sets.length:=by
  obtain ⟨op,set,kids⟩:=e
  have z:∀ b,OkN p ⟨b,0,0⟩:=fun b=>⟨Nat.two_pow_pos _,Nat.two_pow_pos _⟩
  have hpl:OkP { p with sets:=p.sets++[set] }:=by
    intro i
    obtain ⟨a,b⟩:=hp i
    show p.next i < 2 ^ (p.sets++[set]).length∧((p.sets++[set]).length≤i→p.next i=0)
    rw [show (p.sets++[set]).length=p.sets.length+1 by simp]
    exact ⟨Nat.lt_of_lt_of_le a (pow_le (by omega)),fun hi=>b (by omega)⟩
  unfold begin' at h
  dsimp only at h
  split at h
  · split at h
    · cases h
    · rename_i hne
      injection h with h
      injection h with hg hp1
      subst hg hp1
      have e:(p.sets++[set]).length=p.sets.length+1:=by simp
      refine ⟨hpl,?_,?_,?_⟩
      · show (p.sets++[set]).length≤200
        omega
      · show 2 ^ p.sets.length < 2 ^ (p.sets++[set]).length∧2 ^ p.sets.length < 2 ^ (p.sets++[set]).length
        rw [e,Nat.pow_succ]
        have:=Nat.two_pow_pos p.sets.length
        omega
      · show p.sets.length≤(p.sets++[set]).length
        omega
  · repeat' split at h
    all_goals
      injection h with h
      injection h with hg hp1
      subst hg hp1
      exact ⟨hp,hl,z _,Nat.le_refl _⟩
theorem Iv.push {op:Int} {k:Ex} {ks:List Ex} {o:Nd} {fs:List Fr} {p p1:Pl} {g:Fr} (h:Iv (⟨op,k :: ks,o⟩ :: fs) p) (hb:begin' k p=some (g,p1)):Iv (g :: ⟨op,ks,o⟩ :: fs) p1:=by
  obtain ⟨h1,h2,h3⟩:=h
  obtain ⟨a,b,c,d⟩:=begin_ok hb h1 h2
  refine ⟨a,b,fun f hf=>?_⟩
  rcases List.mem_cons.1 hf with rfl | hf
  · exact c
  rcases List.mem_cons.1 hf with rfl | hf
  · exact (h3 ⟨op,k :: ks,o⟩ (by simp)).mono d
  · exact (h3 f (by simp [hf])).mono d
theorem fin_ok {f:Fr} {p:Pl} (h:OkP p) (hf:OkN p f.nd):OkP (fin f p)∧(fin f p).sets=p.sets:=by
  unfold fin
  split
  · exact ⟨h.chain hf.2 hf.1,rfl⟩
  · exact ⟨h,rfl⟩
theorem tk_ok {op:Int} {o x:Nd} {p:Pl} (h:OkP p) (ho:OkN p o) (hx:OkN p x):OkP (tkP op o x p)∧(tkP op o x p).sets=p.sets∧OkN p (tkN op o x):=by
  have hN:OkN p (tkN op o x):=by
    unfold tkN
    split
    · unfold seq1
      refine ⟨?_,?_⟩
      · simp only;split
        · exact Nat.or_lt_two_pow ho.1 hx.1
        · exact ho.1
      · simp only;split
        · exact Nat.or_lt_two_pow ho.2 hx.2
        · exact hx.2
    · exact ⟨Nat.or_lt_two_pow ho.1 hx.1,Nat.or_lt_two_pow ho.2 hx.2⟩
  unfold tkP
  split
  · exact ⟨h.chain ho.2 hx.1,rfl,hN⟩
  · exact ⟨h,rfl,hN⟩
theorem Iv.fin {f:Fr} {fs:List Fr} {p:Pl} (h:Iv (f :: fs) p):Iv (f :: fs) (fin f p):=by
  obtain ⟨h1,h2,h3⟩:=h
  obtain ⟨a,b⟩:=fin_ok h1 (h3 f (by simp))
  refine ⟨a,by rw [b];exact h2,fun k hk=>?_⟩
  have:=h3 k hk
  unfold OkN at this ⊢
  rw [b]
  exact this
theorem Iv.pop {f g:Fr} {gs:List Fr} {p:Pl} (h:Iv (f :: g :: gs) p):Iv (⟨g.op,g.left,tkN g.op g.nd f.nd⟩ :: gs) (tkP g.op g.nd f.nd p):=by
  obtain ⟨h1,h2,h3⟩:=h
  obtain ⟨a,b,c⟩:=tk_ok (op:=g.op) h1 (h3 g (by simp)) (h3 f (by simp))
  refine ⟨a,by rw [b];exact h2,fun k hk=>?_⟩
  have:OkN p k.nd:=by
    rcases List.mem_cons.1 hk with rfl | hk
    · exact c
    · exact h3 k (by simp [hk])
  unfold OkN at this ⊢
  rw [b]
  exact this
end Au
end Go.Proofs.YtchaoonefiamdaaGreatDoor
namespace Go.Proofs.YtchaoonefiamdaaGreatDoor
open Go.RowKit
set_option linter.unusedVariables false
set_option linter.unusedSimpArgs false
set_option maxRecDepth 100000 in
set_option maxHeartbeats 2000000 in
theorem next_any (rb:Nat) (S:ByteArray) (i:Nat) (x:Rd) (t:Rl.Tk) (ts:List Rl.Tk) (w:World) (hR:Rdr w rb S i x) (hs:Rl.Strm S.data.toList i (t :: ts)) (hi:i≤S.size) (hS:S.size≤4096) :
    Calls Tryz.prog 30 #[.pointer (some ⟨rb,0,none⟩)] w fun e w'=>e=nextE t∧Rdr w' rb S (t.at':Int) x∧Only (·=rb) w w':=by
  have c0:=hR.c0
  have c1:=hR.c1
  have hlt:=hR.lt
  have hf1:=hR.fz 1
  have hii:(i:Int)≤(S.size:Int):=by omega
  obtain ⟨m,hm⟩:∃ m,m=Rl.blk false (S.data.toList.drop i):=⟨_,rfl⟩
  have hbl:∀ w,Calls Tryz.prog 47 #[.string (S.extract i S.size)] w (fun e w'=>e=.returned (.int .i64 (m:Int))∧w'=w):=fun w=>by
    have:=blanks_any (S.extract i S.size) w (by rw [ByteArray.size_extract];omega)
    rw [Lib.extract_data,List.take_of_length_le (by rw [List.length_drop,← Lib.size_eq];omega),← hm] at this
    exact this
  have hbH:Hid (∀ w,Calls Tryz.prog 47 #[.string (S.extract i S.size)] w (fun e w'=>e=.returned (.int .i64 (m:Int))∧w'=w)):=hbl
  have ht:Hid (t.at'=i+m):=(by rw [Rl.strm_at hs,hm];rfl:t.at'=i+m)
  have hm2:i+m≤S.size:=by have:=Rl.nx_le S.data.toList i (by rw [← Lib.size_eq];omega);rw [← Rl.strm_at hs,ht.out,← Lib.size_eq] at this;exact this
  clear hm hbl
  obtain ⟨G,hG⟩:∃ G,G=w.heap.size:=⟨_,rfl⟩
  have HR:Hid (Rdr w rb S i x):=hR
  have Hs:Hid (Rl.Strm S.data.toList i (t :: ts)):=hs
  clear hR hs
  go_enter Tryz.func30,Tryz.ntmps30
  go_wp2_with fail
  go_cut [] from 5 to 21 (fun wr=>∃ W,W=wr∧Rdr W rb S (t.at':Int) x∧Only (·=rb) w W∧W.heap[G]?=some (.cells #[.string ⟨#[]⟩,.int .i64 0] 79 (0,0)))
  case first =>
    go_region_with (go_at_call 47;refine (hbH.out _).mono ?_;rintro e w' ⟨rfl,rfl⟩)
    all_goals
      go_wp2_with fail
      go_meet
      case rel =>
        have e1:IntKind.i64.wrap ((i:Int)+m)=(t.at':Int):=by rw [IntKind.wrap_i64,ht.out];omega
        rw [e1,hG]
        refine ⟨_,rfl,((HR.out.set1 _).alloc _).drew,(((Only.refl (·=rb) w).setCell (p:=⟨rb,1,none⟩) rfl _).alloc _).drew,?_⟩
        have:=heap_alloc_new (w.setCell ⟨rb,1,none⟩ (.int .i64 (t.at':Int))) (.cells #[.string ⟨#[]⟩,.int .i64 0] 79)
        rw [show (w.setCell ⟨rb,1,none⟩ (.int .i64 (t.at':Int))).heap.size=w.heap.size by simp [World.setCell]] at this
        exact this
  case rest =>
    obtain ⟨W,hW,hR2,hO2,hG2⟩:=hcut
    have d0:=hR2.c0
    have d1:=hR2.c1
    have hti:(t.at':Int)≤(S.size:Int):=by have:=ht.out;omega
    have HR2:Hid (Rdr W rb S (t.at':Int) x):=hR2
    have HO2:Hid (Only (·=rb) w W):=hO2
    obtain ⟨r,hr⟩:∃ r,r=S.extract t.at' S.size:=⟨_,rfl⟩
    have hrs:r.size=S.size - t.at':=by rw [hr,ByteArray.size_extract];omega
    have hrd:Hid (r.data.toList=S.data.toList.drop t.at'):=(by rw [hr,Lib.extract_data,List.take_of_length_le (by rw [List.length_drop,← Lib.size_eq];omega)]:r.data.toList=S.data.toList.drop t.at')
    have htk:Hid (t.text=r.data.toList.take (Rl.plen r.data.toList)∧t.bad=decide (r.data.toList≠[]∧Rl.plen r.data.toList=0)):=by
      have h1:=Hs.out.1
      have h2:=Rl.strm_at Hs.out
      rw [hrd.out,h2]
      rw [h1]
      exact ⟨rfl,rfl⟩
    have g0:W.cell? ⟨G,0,none⟩=some (.string ⟨#[]⟩):=(cell_of_row _ _ _ _ _ _ hG2).trans rfl
    have g1:W.cell? ⟨G,1,none⟩=some (.int .i64 0):=(cell_of_row _ _ _ _ _ _ hG2).trans rfl
    have gf0:W.frozen? ⟨G,0,none⟩=false:=by simp [World.frozen?,hG2]
    have gf1:W.frozen? ⟨G,1,none⟩=false:=by simp [World.frozen?,hG2]
    have HG2:Hid (W.heap[G]?=some (.cells #[.string ⟨#[]⟩,.int .i64 0] 79 (0,0))):=hG2
    have Hr:Hid (r=S.extract t.at' S.size):=hr
    rw [← hW,← hG]
    have HG:Hid (G=w.heap.size):=hG
    have hGr:G≠rb:=by omega
    have hGw:w.heap.size≤G:=by omega
    clear hR2 hO2 hG2 c0 c1 hf1 hW hG
    go_wp2_with fail
    go_quiet (fail)
    rw [← hr]
    clear hr
    obtain ⟨n,hn⟩:∃ n,n=Rl.nml r.data.toList:=⟨_,rfl⟩
    have hnl:∀ w,Calls Tryz.prog 48 #[.string r] w (fun e w'=>e=.returned (.int .i64 (n:Int))∧w'=w):=fun w=>by rw [hn];exact nameLen_any r w (by omega)
    have Hn:Hid (n=Rl.nml r.data.toList):=hn
    have Hnl:Hid (∀ w,Calls Tryz.prog 48 #[.string r] w (fun e w'=>e=.returned (.int .i64 (n:Int))∧w'=w)):=hnl
    clear hn hnl
    by_cases h0:0 < n
    · have h0':(0:Int) < (n:Int):=by omega
      have hle:(n:Int)≤(r.size:Int):=by have:=Rl.nml_le r.data.toList;rw [← Hn.out,← Lib.size_eq] at this;omega
      go_wp2_with (go_at_call 48;refine (Hnl.out _).mono ?_;rintro e w' ⟨rfl,rfl⟩)
      go_region
      all_goals go_wp2_with fail
      have hE:nextE t=.returned (.agg #[.string (r.extract 0 n),.int .i64 (t.at':Int)]):=by
        have hp:Rl.plen r.data.toList=n:=by unfold Rl.plen;rw [← Hn.out,if_pos h0]
        have h1:=htk.out
        rw [hp] at h1
        unfold nextE
        rw [if_neg (by rw [h1.2];simp;omega),h1.1,extract_take]
      rw [hE]
      refine bodyPost_ret (v:=.agg #[.string (r.extract 0 n),.int .i64 (t.at':Int)]) (by simp [results,Tryz.results30,go_sem,g0,g1]) rfl ?_
      refine ⟨rfl,(((HR2.out.drewN _).setOther (by omega) _).setOther (by omega) _),((HO2.out.drewN _).setNew (by omega) _).setNew (by omega) _⟩
    · obtain rfl:n=0:=by omega
      clear h0
      by_cases hre:r.size=0
      · have hnil0:r.data.toList=[]:=by rw [← List.length_eq_zero_iff,← Lib.size_eq];exact hre
        have he:r.toList.isEmpty=true:=by rw [Lib.toList_data,hnil0];rfl
        clear hnil0
        have hle:(0:Int)≤(r.size:Int):=by omega
        have hE:nextE t=.returned (.agg #[.string (r.extract 0 0),.int .i64 (t.at':Int)]):=by
          have hnil:r.data.toList=[]:=by rw [← List.length_eq_zero_iff,← Lib.size_eq];exact hre
          have h1:=htk.out
          rw [hnil] at h1
          unfold nextE
          rw [if_neg (by rw [h1.2];simp),h1.1,extract_take];rfl
        have HE:Hid (nextE t=.returned (.agg #[.string (r.extract 0 0),.int .i64 (t.at':Int)])):=hE
        clear hE hre
        go_wp2_with (go_at_call 48;refine (Hnl.out _).mono ?_;rintro e w' ⟨rfl,rfl⟩)
        go_region
        all_goals go_wp2_with fail
        refine bodyPost_ret (v:=.agg #[.string (r.extract 0 0),.int .i64 (t.at':Int)]) (by simp [results,Tryz.results30,go_sem,g0,g1]) rfl ?_
        exact ⟨HE.out.symm,(((HR2.out.drewN _).setOther (by omega) _).setOther (by omega) _),((HO2.out.drewN _).setNew (by omega) _).setNew (by omega) _⟩
      · have hlt0:0 < r.size:=by omega
        have he:r.toList.isEmpty=false:=by
          rw [Lib.toList_data]
          cases h:r.data.toList with
          | nil=>rw [Lib.size_eq,h] at hlt0;simp at hlt0
          | cons a l=>rfl
        have hle:(1:Int)≤(r.size:Int):=by omega
        have hltI:(0:Int) < (r.size:Int):=by omega
        have hcons:Hid (r.data.toList=r[0] :: r.data.toList.drop 1):=(by have:=drop_data hlt0;simpa using this:r.data.toList=r[0] :: r.data.toList.drop 1)
        obtain ⟨q,hq⟩:∃ q,q=Lib.indexByte Rl.signs r[0]:=⟨_,rfl⟩
        have hix:∀ w,Calls Tryz.prog 49 #[.string ⟨#[40,41,91,93,94,124,42,43,63,46,59,47,61]⟩,.int .u8 (r[0].toNat:Int)] w (fun e w'=>e=.returned (.int .i64 q)∧w'=w):=fun w=>by rw [hq];exact indexByte_any _ _ w
        have Hix:Hid (∀ w,Calls Tryz.prog 49 #[.string ⟨#[40,41,91,93,94,124,42,43,63,46,59,47,61]⟩,.int .u8 (r[0].toNat:Int)] w (fun e w'=>e=.returned (.int .i64 q)∧w'=w)):=hix
        have hhas:=indexByte_has Rl.signs r[0]
        rw [← hq] at hhas
        have hpl:Rl.plen r.data.toList=if Rl.signs.contains r[0]=true then 1 else 0:=by
          unfold Rl.plen
          rw [← Hn.out,if_neg (by omega)]
          rw [hcons.out]
        by_cases hc:Rl.signs.contains r[0]=true
        · have hq0:(0:Int)≤q:=hhas.2 hc
          have hE:nextE t=.returned (.agg #[.string (r.extract 0 1),.int .i64 (t.at':Int)]):=by
            rw [if_pos hc] at hpl
            have h1:=htk.out
            rw [hpl] at h1
            unfold nextE
            rw [if_neg (by rw [h1.2];simp),h1.1,extract_take]
          have HE:Hid (nextE t=.returned (.agg #[.string (r.extract 0 1),.int .i64 (t.at':Int)])):=hE
          clear hE hre hq hix hhas hpl hc
          go_wp2_with (first | (go_at_call 48;refine (Hnl.out _).mono ?_;rintro e w' ⟨rfl,rfl⟩) | (go_at_call 49;refine (Hix.out _).mono ?_;rintro e w' ⟨rfl,rfl⟩))
          go_region
          all_goals go_wp2_with fail
          refine bodyPost_ret (v:=.agg #[.string (r.extract 0 1),.int .i64 (t.at':Int)]) (by simp [results,Tryz.results30,go_sem,g0,g1]) rfl ?_
          exact ⟨HE.out.symm,(((HR2.out.drewN _).setOther (by omega) _).setOther (by omega) _),((HO2.out.drewN _).setNew (by omega) _).setNew (by omega) _⟩
        · have hq0:¬ (0:Int)≤q:=fun h=>hc (hhas.1 h)
          have hq1:decide ((0:Int)≤q)=false:=decide_eq_false hq0
          have hE:nextE t=.panicked (thr 20 t.at'):=by
            rw [if_neg hc] at hpl
            have h1:=htk.out
            rw [hpl,hcons.out] at h1
            unfold nextE
            rw [if_pos (by rw [h1.2];simp)]
          have HE:Hid (nextE t=.panicked (thr 20 t.at')):=hE
          clear hE hre hq hix hhas hpl hc
          go_wp2_with (first | (go_at_call 48;refine (Hnl.out _).mono ?_;rintro e w' ⟨rfl,rfl⟩) | (go_at_call 49;refine (Hix.out _).mono ?_;rintro e w' ⟨rfl,rfl⟩) | (go_at_call 31;refine (throw_any 20 t.at' _).mono ?_;rintro e w' ⟨rfl,rfl⟩))
          exact ⟨rfl,HE.out.symm,HR2.out.drewN _,HO2.out.drewN _⟩
end Go.Proofs.YtchaoonefiamdaaGreatDoor
