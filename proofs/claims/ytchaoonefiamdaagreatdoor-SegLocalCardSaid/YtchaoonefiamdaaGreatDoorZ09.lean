/- Thing2 Row -/
import Derived.Test.YtchaoonefiamdaaGreatDoorZ08
namespace Go.Proofs.YtchaoonefiamdaaGreatDoor
open Go.RowKit Go.Maps
set_option linter.unusedVariables false
set_option linter.unusedSimpArgs false
set_option maxRecDepth 100000 in
set_option maxHeartbeats 4000000 in
theorem thing_step (E:Rl.Env) (nc rb:Nat) (S:ByteArray) (n:Nat) (hS:S.size≤4096) (hE:EitherOk E nc rb S n):ThingOk E nc rb S (n+1):=by
  intro d p x t ts w hI hM hC hb hbeg hn
  have hlt:=hI.lt
  have HC:Hid (Cx nc rb x p d):=hC
  have HI:Hid (In w rb S x (t :: ts)):=hI
  have HM:Hid (Mp w x.mb E):=hM
  have HE:Hid (EitherOk E nc rb S n):=hE
  have HB:Hid (¬ t.bad=true):=hb
  have HBg:Hid (Rl.beg t=true):=hbeg
  have Z0:Hid (Xb (w.alloc (.cells #[.int .u8 0,.int .u32 0,.slice none 0 0] 88)) w.heap.size (.int .u8 0) (.int .u32 0) (.slice none 0 0)):=Xb.new w _ _ _
  have ht:=bs_toList t.text
  have h40:(⟨#[40]⟩:ByteArray).toList=[40]:=by rw [Lib.toList_data]
  rw [thing_cons]
  clear hI hM hC hE hb hbeg
  by_cases htx:t.text=[40]
  · rw [if_pos htx]
    have q:(t.text == [40])=true:=by rw [htx];simp
    have Hne:Hid (t.text≠[]):=(by rw [htx];simp:t.text≠[])
    clear htx
    cases hF:brF E nc n d t ts p with
    | error f =>
      have T1:Hid (brF E nc n d t ts p=.error f):=hF
      clear hF
      go_enter Tryz.func109,Tryz.ntmps109
      go_wp2_with (first | (go_at_call 30;refine (next_ok rb S x t ts _ (HI.out.alloc _) hS HB.out).mono ?_;rintro e w1 ⟨rfl,hR1,hs1,he1,ho1⟩;have HS1:Hid (Rl.Strm S.data.toList t.at' (t :: ts)):=hs1;have HR1:Hid (Rdr w1 rb S (t.at':Int) x):=hR1;clear hs1 hR1;have HO1:Hid (Only (·=rb) w w1):=((Only.refl (·=rb) w).alloc _).trans ho1) | (go_at_call 120;have hc:=bracket_any E nc n d p rb S x t ts t.at' _ (HR1.out.alloc (.cells #[.string (bs t.text),.int .i64 (t.at':Int)] 79)) HS1.out he1 hS ((HM.out.only HO1.out HC.out.mb).alloc _) HC.out Hne.out HE.out (by omega);rw [T1.out] at hc;refine hc.mono ?_;clear hc;rintro e w2 ⟨rfl,ho2⟩))
      exact ⟨rfl,rfl,(HO1.out.alloc _).trans ho2⟩
    | ok r =>
      obtain ⟨ex,ts2,p2⟩:=r
      have T1:Hid (brF E nc n d t ts p=.ok (ex,ts2,p2)):=hF
      clear hF
      go_enter Tryz.func109,Tryz.ntmps109
      go_wp2_with (first | (go_at_call 30;refine (next_ok rb S x t ts _ (HI.out.alloc _) hS HB.out).mono ?_;rintro e w1 ⟨rfl,hR1,hs1,he1,ho1⟩;have HS1:Hid (Rl.Strm S.data.toList t.at' (t :: ts)):=hs1;have HR1:Hid (Rdr w1 rb S (t.at':Int) x):=hR1;clear hs1 hR1;have HO1:Hid (Only (·=rb) w w1):=((Only.refl (·=rb) w).alloc _).trans ho1;have Z1:Hid (Xb w1 w.heap.size (.int .u8 0) (.int .u32 0) (.slice none 0 0)):=Z0.out.only ho1 (by omega);have hl1:=Z1.out.lt) | (go_at_call 120;have hc:=bracket_any E nc n d p rb S x t ts t.at' _ (HR1.out.alloc (.cells #[.string (bs t.text),.int .i64 (t.at':Int)] 79)) HS1.out he1 hS ((HM.out.only HO1.out HC.out.mb).alloc _) HC.out Hne.out HE.out (by omega);rw [T1.out] at hc;refine hc.mono ?_;clear hc;rintro e w2 ⟨v,rfl,hT2,hI2,ho2⟩;obtain ⟨o,s,a,k,c,rfl⟩:=hT2.form;have Z2:Hid (Xb w2 w.heap.size (.int .u8 0) (.int .u32 0) (.slice none 0 0)):=(Z1.out.alloc _).only ho2 (by omega);have z0:=Z2.out.c0;have z1:=Z2.out.c1;have z2:=Z2.out.c2;have zf0:=Z2.out.fz 0;have zf1:=Z2.out.fz 1;have zf2:=Z2.out.fz 2;have HT2:Hid (Tr w2 (fun b=>w1.heap.size+1≤b) ex (.agg #[.int .u8 o,.int .u32 s,.slice a k c])):=(by have:=hT2;simp only [World.alloc,Array.size_push] at this;exact this);have HI2:Hid (In w2 rb S (x.withPl p2) ts2):=hI2;clear hT2 hI2;have HO2:Hid (Only (·=rb) w w2):=(HO1.out.alloc _).trans ho2))
      refine bodyPost_ret (v:=.agg #[.int .u8 o,.int .u32 s,.slice a k c]) (results_x rfl _ rfl (Z2.out.set3 _ _ _)) rfl ?_
      refine ⟨_,rfl,?_,HI2.out.set3 (z:=w.heap.size) (by omega) _ _ _,HO2.out.set3 (z:=w.heap.size) (Nat.le_refl _) _ _ _⟩
      refine HT2.out.keep fun b hb hl=>⟨by omega,?_⟩
      exact set3_other w2 (z:=w.heap.size) _ _ _ (by omega)
  · rw [if_neg htx]
    have q:(t.text == [40])=false:=by simpa using htx
    have Hno:Hid (t.text≠[40]):=htx
    clear htx
    obtain ⟨a,cap,hv⟩:=HC.out.vC
    have Hv:Hid (x.vC=.slice a nc cap):=hv
    clear hv
    cases hF:Rl.some' E nc (t :: ts) p with
    | error f =>
      have T1:Hid (Rl.some' E nc (t :: ts) p=.error f):=hF
      clear hF
      simp only
      go_enter Tryz.func109,Tryz.ntmps109
      go_wp2_with (first | (go_at_call 30;refine (next_ok rb S x t ts _ (HI.out.alloc _) hS HB.out).mono ?_;rintro e w1 ⟨rfl,hR1,hs1,he1,ho1⟩;have HI1:Hid (In w1 rb S x (t :: ts)):=⟨_,hR1,hs1,by omega⟩;clear hs1 hR1;have HO1:Hid (Only (·=rb) w w1):=((Only.refl (·=rb) w).alloc _).trans ho1) | (go_at_call 121;have hc:=some_any E nc p rb S x t ts _ (HI1.out.alloc (.cells #[.string (bs t.text),.int .i64 (t.at':Int)] 79)) hS ((HM.out.only HO1.out HC.out.mb).alloc _) HC.out.mb HB.out HBg.out Hno.out HC.out.pl HC.out.p200 a cap Hv.out HC.out.nc24;rw [T1.out] at hc;refine hc.mono ?_;clear hc;rintro e w2 ⟨rfl,ho2⟩))
      exact ⟨rfl,rfl,(HO1.out.alloc _).trans ho2⟩
    | ok r =>
      obtain ⟨b,ts2,p2⟩:=r
      have T1:Hid (Rl.some' E nc (t :: ts) p=.ok (b,ts2,p2)):=hF
      clear hF
      simp only
      go_enter Tryz.func109,Tryz.ntmps109
      go_wp2_with (first | (go_at_call 30;refine (next_ok rb S x t ts _ (HI.out.alloc _) hS HB.out).mono ?_;rintro e w1 ⟨rfl,hR1,hs1,he1,ho1⟩;have HI1:Hid (In w1 rb S x (t :: ts)):=⟨_,hR1,hs1,by omega⟩;clear hs1 hR1;have HO1:Hid (Only (·=rb) w w1):=((Only.refl (·=rb) w).alloc _).trans ho1;have Z1:Hid (Xb w1 w.heap.size (.int .u8 0) (.int .u32 0) (.slice none 0 0)):=Z0.out.only ho1 (by omega)) | (go_at_call 121;have hc:=some_any E nc p rb S x t ts _ (HI1.out.alloc (.cells #[.string (bs t.text),.int .i64 (t.at':Int)] 79)) hS ((HM.out.only HO1.out HC.out.mb).alloc _) HC.out.mb HB.out HBg.out Hno.out HC.out.pl HC.out.p200 a cap Hv.out HC.out.nc24;rw [T1.out] at hc;refine hc.mono ?_;clear hc;rintro e w2 ⟨rfl,hI2,ho2⟩;have Z2:Hid (Xb w2 w.heap.size (.int .u8 0) (.int .u32 0) (.slice none 0 0)):=(Z1.out.alloc _).only ho2 (by omega);have z0:=Z2.out.c0;have z1:=Z2.out.c1;have z2:=Z2.out.c2;have zf0:=Z2.out.fz 0;have zf1:=Z2.out.fz 1;have zf2:=Z2.out.fz 2;have HI2:Hid (In w2 rb S (x.withPl p2) ts2):=hI2;clear hI2;have HO2:Hid (Only (·=rb) w w2):=(HO1.out.alloc _).trans ho2))
      refine bodyPost_ret (v:=.agg #[.int .u8 1,.int .u32 b,.slice none 0 0]) (results_x rfl _ rfl (Z2.out.set3 _ _ _)) rfl ?_
      exact ⟨_,rfl,Tr.leaf _ _ _ _,HI2.out.set3 (z:=w.heap.size) (by omega) _ _ _,HO2.out.set3 (z:=w.heap.size) (Nat.le_refl _) _ _ _⟩
end Go.Proofs.YtchaoonefiamdaaGreatDoor
namespace Go.Proofs.YtchaoonefiamdaaGreatDoor
open Go.RowKit Go.Maps
set_option linter.unusedVariables false
set_option linter.unusedSimpArgs false
theorem row_cons (E:Rl.Env) (nc n d:Nat) (t:Rl.Tk) (ts:List Rl.Tk) (p:Nat) (l:List Rl.Ex):Rl.row E nc (n+1) d (t :: ts) p l=if t.bad=true then .error (20,t.at') else if Rl.beg t=true then
        match Rl.thing E nc n d (t :: ts) p with
        | .error f=>.error f
        | .ok (e,ts1,p1)=>match Rl.often e ts1 with
          | .error f=>.error f
          | .ok (e2,ts2)=>Rl.row E nc n d ts2 p1 (l++[e2])
      else .ok (Rl.mkSeq l,t :: ts,p):=by simp only [Rl.row];rfl
theorem own_form {w:World} {base e size n:Nat} {v:Value} {xs:List Value} (h:w.ownsRow base e size v n xs):∃ a cap,v=.slice a n cap:=by
  obtain ⟨hl,⟨hv,h0⟩ | ⟨g,cap,cur,hv,_⟩⟩:=h
  · subst h0;exact ⟨none,0,hv⟩
  · exact ⟨_,cap,hv⟩
theorem own_only {w w':World} {base e size n:Nat} {v:Value} {xs:List Value} {P:Nat→Prop} (h:w.ownsRow base e size v n xs) (ho:Only P w w') (hP:∀ g,base≤g→¬ P g):w'.ownsRow base e size v n xs:=by
  obtain ⟨hl,h | ⟨g,cap,cur,hv,hb,hh,h1⟩⟩:=h
  · exact ⟨hl,Or.inl h⟩
  · exact ⟨hl,Or.inr ⟨g,cap,cur,hv,hb,(ho.block g (Array.getElem?_eq_some_iff.1 hh).1 (hP g hb)).trans hh,h1⟩⟩
theorem row_form {w:World} {base e size n:Nat} {v:Value} {xs:List Value} (h:w.ownsRow base e size v n xs) (hn:0 < n) :
    ∃ g cap,v=.slice (some ⟨g,0,none⟩) n cap∧base≤g∧g < w.heap.size∧n≤cap∧∀ j,j < n*size→w.cell? ⟨g,j,none⟩=xs[j]?:=by
  obtain ⟨hl,⟨hv,h0⟩ | ⟨g,cap,cur,hv,h1,h2,h3,h4,h5,h6⟩⟩:=h
  · omega
  · refine ⟨g,cap,hv,h1,(Array.getElem?_eq_some_iff.1 h2).1,h3,fun j hj=>?_⟩
    rw [cell_of_row w g j cur e (0,0) h2,← h6,List.getElem?_take,if_pos hj]
    simp
theorem strm_len {l:Rl.Str}:∀ {ts:List Rl.Tk} {i:Nat},Rl.Strm l i ts→i≤l.length→ts.length+i≤l.length+1
  | [],_,h,_=>h.elim
  | t :: ts,i,h,hi=>by
    have h2:=h.2
    by_cases e:t.text=[]
    · rw [if_pos e] at h2
      subst h2
      simp;omega
    · rw [if_neg e] at h2
      have h3:=Rl.tk_end l i hi
      rw [← h.1] at h3
      have h4:0 < t.text.length:=List.length_pos_iff.2 e
      have h5:i≤t.at':=by rw [h.1];exact Rl.nx_ge l i
      have h6:=strm_len h2 h3
      simp only [List.length_cons]
      omega
theorem In.len {w:World} {rb:Nat} {S:ByteArray} {x:Rd} {ts:List Rl.Tk} (h:In w rb S x ts):ts.length≤S.size+1:=by
  obtain ⟨i,_,hs,hi⟩:=h
  have:=strm_len hs (by rw [← Lib.size_eq];exact hi)
  rw [← Lib.size_eq] at this
  omega
def Kb (base:Nat) (v:Value) (b:Nat):Prop:=base≤b∧v.ownBlock≠some b
def Es (w:World) (base:Nat) (v:Value) (l:List Rl.Ex):Prop:=∃ xs,w.ownsRow base 88 3 v l.length xs∧Trs w (Kb base v) l (fun j=>xs[j]?)
theorem Es.nil (w:World) (base:Nat):Es w base (.slice none 0 0) []:=⟨[],World.ownsRow_nil _ _ _ _,by unfold Trs;trivial⟩
theorem Es.only {w w':World} {base:Nat} {v:Value} {l:List Rl.Ex} {P:Nat→Prop} (h:Es w base v l) (ho:Only P w w') (hP:∀ g,base≤g→¬ P g):Es w' base v l:=by
  obtain ⟨xs,h1,h2⟩:=h
  exact ⟨xs,own_only h1 ho hP,h2.keep (fun b hb hl=>⟨hb,ho.block b hl (hP b hb.1)⟩)⟩
theorem Es.snoc {w w':World} {base:Nat} {v v':Value} {l:List Rl.Ex} {xs:List Value} {e:Rl.Ex} {o s k:Value} {F:Nat→Prop} {ob:Obj} (h1:w.ownsRow base 88 3 v l.length xs) (h2:Trs w (Kb base v) l (fun j=>xs[j]?)) (he:Tr w F e (.agg #[o,s,k]))
    (hF:∀ b,F b→Kb base v b) (hown:w'.ownsRow base 88 3 v' (l.length+1) (xs++[o,s,k])) (hg:(w.alloc ob).grownBy w' v.ownBlock) (hat:v'.ownBlock=v.ownBlock∨v'.ownBlock=some (w.alloc ob).heap.size):Es w' base v' (l++[e]):=by
  refine ⟨xs++[o,s,k],by rw [List.length_append];exact hown,?_⟩
  have hk:∀ b,Kb base v b→b < w.heap.size→Kb base v' b∧w'.heap[b]?=w.heap[b]?:=fun b hb hl=>by
    refine ⟨⟨hb.1,fun e=>?_⟩,(hg.block b (by simp;omega) (fun e=>hb.2 e.symm)).trans (Below.heap_alloc _ _ _ hl)⟩
    rcases hat with h | h
    · exact hb.2 (h ▸ e)
    · rw [h] at e
      injection e with e
      simp at e
      omega
  exact Trs.snoc (he.keep (fun b hb hl=>hk b (hF b hb) hl)) l xs (by rw [h1.1];omega) (h2.keep hk)
set_option maxRecDepth 100000 in
set_option maxHeartbeats 8000000 in
theorem row_step (E:Rl.Env) (nc rb:Nat) (S:ByteArray) (n:Nat) (hS:S.size≤4096) (hT:∀ m,m < n→ThingOk E nc rb S m):RowOk E nc rb S n:=by
  intro d p x ts w hI hM hC hn
  obtain ⟨i0,hi,hz0,hz1,hz2⟩:=info_parts info50
  have hlt:=hI.lt
  have htl:ts.length≤5000:=by have:=hI.len;omega
  have HC:Hid (Cx nc rb x p d):=hC
  have HI:Hid (In w rb S x ts):=hI
  have HM:Hid (Mp w x.mb E):=hM
  have HT:Hid (∀ m,m < n→ThingOk E nc rb S m):=hT
  have Z0:Hid (Xb (w.alloc (.cells #[.int .u8 0,.int .u32 0,.slice none 0 0] 88)) w.heap.size (.int .u8 0) (.int .u32 0) (.slice none 0 0)):=Xb.new w _ _ _
  obtain ⟨F,hF⟩:∃ F,F=Rl.row E nc n d ts p []:=⟨_,rfl⟩
  have HF:Hid (F=Rl.row E nc n d ts p []):=hF
  rw [← hF]
  have hpx:x=x.withPl p:=by have:=hC.pl;cases x;simp only [Rd.withPl] at this ⊢;rw [this]
  have Hpx:Hid (x=x.withPl p):=hpx
  have hp200:=hC.p200
  clear hF hI hM hC hT hpx
  go_enter Tryz.func99,Tryz.ntmps99
  go_wp2_with fail
  go_loopg [3] ts.length (fun g v wr=>∃ (tsr:List Rl.Tk) (m pr:Nat) (l:List Rl.Ex),g=tsr.length∧In wr rb S (x.withPl pr) tsr∧Only (·=rb) w wr∧Xb wr w.heap.size (.int .u8 0) (.int .u32 0) (.slice none 0 0)∧Es wr (w.heap.size+1) v l∧pr≤200∧4*tsr.length+2≤m∧m≤n∧l.length+tsr.length≤ts.length∧Hid (F=Rl.row E nc m d tsr pr l))
  case atStart=>exact ⟨ts,n,p,[],rfl,by rw [← Hpx.out];exact HI.out.alloc _,(Only.refl (·=rb) w).alloc _,Z0.out,Es.nil _ _,hp200,hn,Nat.le_refl _,by simp,HF.out⟩
  case round =>
    obtain ⟨tsr,m,pr,l,rfl,hIr,hOr,hZr,hEr,hpr,hm1,hm2,hll,hFr⟩:=hrel
    cases tsr with
    | nil=>obtain ⟨i,_,h2,_⟩:=hIr;exact h2.elim
    | cons t tsr =>
      obtain ⟨m,rfl⟩:∃ k,m=k+1:=⟨m - 1,by omega⟩
      have HIr:Hid (In wr rb S (x.withPl pr) (t :: tsr)):=hIr
      have HOr:Hid (Only (·=rb) w wr):=hOr
      have HMr:Hid (Mp wr x.mb E):=HM.out.only hOr HC.out.mb
      have HCr:Hid (Cx nc rb (x.withPl pr) pr d):=HC.out.withPl hpr
      have HZr:Hid (Xb wr w.heap.size (.int .u8 0) (.int .u32 0) (.slice none 0 0)):=hZr
      have HEr:=hEr
      have hFr':=hFr.out
      have hlz:=hZr.lt
      rw [row_cons] at hFr'
      simp only [List.length_cons] at hm1 hll
      clear hIr hOr hFr hZr hEr
      by_cases hb:t.bad=true
      · have HB:Hid (t.bad=true):=hb
        rw [if_pos hb] at hFr'
        have HE:Hid (F=.error (20,t.at')):=hFr'
        clear hb hFr' HEr
        go_wp2_with (go_at_call 30;refine (next_bad rb S _ t tsr _ HIr.out hS HB.out).mono ?_;rintro e w1 ⟨rfl,ho1⟩)
        refine ⟨rfl,?_⟩
        rw [HE.out]
        exact ⟨rfl,HOr.out.trans ho1⟩
      · have HB:Hid (¬ t.bad=true):=hb
        rw [if_neg hb] at hFr'
        by_cases hbg:Rl.beg t=true
        · have HBg:Hid (Rl.beg t=true):=hbg
          rw [if_pos hbg] at hFr'
          cases hth:Rl.thing E nc m d (t :: tsr) pr with
          | error f =>
            rw [hth] at hFr'
            have HE:Hid (F=.error f):=hFr'
            have T1:Hid (Rl.thing E nc m d (t :: tsr) pr=.error f):=hth
            clear hb hFr' HEr hth
            go_wp2_with (first | (go_at_call 30;refine (next_ok rb S _ t tsr _ HIr.out hS HB.out).mono ?_;rintro e w1 ⟨rfl,hR1,hs1,he1,ho1⟩;have HI1:Hid (In w1 rb S (x.withPl pr) (t :: tsr)):=⟨_,hR1,hs1,by omega⟩;clear hR1 hs1) | (go_at_call 107;refine (begins_any t _ (by omega)).mono ?_;rintro e w2 ⟨rfl,ho2⟩;have HI2:Hid (In w2 rb S (x.withPl pr) (t :: tsr)):=HI1.out.only ho2 (fun h=>h);have HO2:Hid (Only (·=rb) wr w2):=ho1.trans (ho2.mono (fun _ h=>h.elim))) | (go_at_call 109;have hc:=HT.out m (by omega) d pr (x.withPl pr) t tsr _ HI2.out (HMr.out.only HO2.out HC.out.mb) HCr.out HB.out HBg.out (by omega);rw [T1.out] at hc;refine hc.mono ?_;clear hc;rintro e w3 ⟨rfl,ho3⟩))
            refine ⟨rfl,?_⟩
            rw [HE.out]
            exact ⟨rfl,HOr.out.trans (HO2.out.trans ho3)⟩
          | ok r =>
            obtain ⟨e1,ts1,p1⟩:=r
            rw [hth] at hFr'
            have T1:Hid (Rl.thing E nc m d (t :: tsr) pr=.ok (e1,ts1,p1)):=hth
            have hln:=(Rl.expr_len E nc m).2.2.2 _ _ _ _ _ _ hth hpr
            simp only [List.length_cons] at hln hFr'
            cases hof:Rl.often e1 ts1 with
            | error f =>
              rw [hof] at hFr'
              have HE:Hid (F=.error f):=hFr'
              have T2:Hid (Rl.often e1 ts1=.error f):=hof
              clear hb hFr' HEr hth hof
              go_wp2_with (first | (go_at_call 30;refine (next_ok rb S _ t tsr _ HIr.out hS HB.out).mono ?_;rintro e w1 ⟨rfl,hR1,hs1,he1,ho1⟩;have HI1:Hid (In w1 rb S (x.withPl pr) (t :: tsr)):=⟨_,hR1,hs1,by omega⟩;clear hR1 hs1) | (go_at_call 107;refine (begins_any t _ (by omega)).mono ?_;rintro e w2 ⟨rfl,ho2⟩;have HI2:Hid (In w2 rb S (x.withPl pr) (t :: tsr)):=HI1.out.only ho2 (fun h=>h);have HO2:Hid (Only (·=rb) wr w2):=ho1.trans (ho2.mono (fun _ h=>h.elim));have hl2:=HO2.out.size) | (go_at_call 109;have hc:=HT.out m (by omega) d pr (x.withPl pr) t tsr _ HI2.out (HMr.out.only HO2.out HC.out.mb) HCr.out HB.out HBg.out (by omega);rw [T1.out] at hc;refine hc.mono ?_;clear hc;rintro e w3 ⟨v3,rfl,hT3,hI3,ho3⟩;have HI3:Hid (In w3 rb S (x.withPl p1) ts1):=hI3;have HT3:Hid (Tr w3 (fun b=>w2.heap.size≤b) e1 v3):=hT3;clear hI3 hT3) | (go_at_call 108;have hc:=often_any rb S (x.withPl p1) (fun b=>w2.heap.size≤b) e1 v3 ts1 _ HI3.out hS HT3.out (fun b hb=>by omega);rw [T2.out] at hc;refine hc.mono ?_;clear hc;rintro e w4 ⟨rfl,ho4⟩))
              refine ⟨rfl,?_⟩
              rw [HE.out]
              exact ⟨rfl,HOr.out.trans (HO2.out.trans (ho3.trans ho4))⟩
            | ok r =>
              obtain ⟨e2,ts2⟩:=r
              rw [hof] at hFr'
              have HE:Hid (F=Rl.row E nc m d ts2 p1 (l++[e2])):=hFr'
              have T2:Hid (Rl.often e1 ts1=.ok (e2,ts2)):=hof
              have hln2:=Rl.often_len hof
              obtain ⟨xs,hown,hkids⟩:=HEr
              have HOwn:Hid (wr.ownsRow (w.heap.size+1) 88 3 u3 l.length xs):=hown
              have HKid:Hid (Trs wr (Kb (w.heap.size+1) u3) l (fun j=>xs[j]?)):=hkids
              clear hb hFr' hth hof hown hkids
              go_wp2_with (first | (go_at_call 30;refine (next_ok rb S _ t tsr _ HIr.out hS HB.out).mono ?_;rintro e w1 ⟨rfl,hR1,hs1,he1,ho1⟩;have HI1:Hid (In w1 rb S (x.withPl pr) (t :: tsr)):=⟨_,hR1,hs1,by omega⟩;clear hR1 hs1) | (go_at_call 107;refine (begins_any t _ (by omega)).mono ?_;rintro e w2 ⟨rfl,ho2⟩;have HI2:Hid (In w2 rb S (x.withPl pr) (t :: tsr)):=HI1.out.only ho2 (fun h=>h);have HO2:Hid (Only (·=rb) wr w2):=ho1.trans (ho2.mono (fun _ h=>h.elim));have hl2:=HO2.out.size) | (go_at_call 109;have hc:=HT.out m (by omega) d pr (x.withPl pr) t tsr _ HI2.out (HMr.out.only HO2.out HC.out.mb) HCr.out HB.out HBg.out (by omega);rw [T1.out] at hc;refine hc.mono ?_;clear hc;rintro e w3 ⟨v3,rfl,hT3,hI3,ho3⟩;have HI3:Hid (In w3 rb S (x.withPl p1) ts1):=hI3;have HT3:Hid (Tr w3 (fun b=>w2.heap.size≤b) e1 v3):=hT3;clear hI3 hT3;have hl3:=ho3.size) | (go_at_call 108;have hc:=often_any rb S (x.withPl p1) (fun b=>w2.heap.size≤b) e1 v3 ts1 _ HI3.out hS HT3.out (fun b hb=>by omega);rw [T2.out] at hc;refine hc.mono ?_;clear hc;rintro e w4 ⟨v4,rfl,hT4,hI4,ho4⟩;obtain ⟨o,s,a,k,c,rfl⟩:=hT4.form;have HI4:Hid (In w4 rb S (x.withPl p1) ts2):=hI4;have HT4:Hid (Tr w4 (fun b=>w2.heap.size≤b∨w3.heap.size≤b) e2 (.agg #[.int .u8 o,.int .u32 s,.slice a k c])):=hT4;clear hI4 hT4;have HO4:Hid (Only (·=rb) wr w4):=HO2.out.trans (ho3.trans ho4);have hl4:=HO4.out.size;have HOwn4:Hid (w4.ownsRow (w.heap.size+1) 88 3 u3 l.length xs):=own_only HOwn.out HO4.out (fun g hg=>by omega);have HKid4:Hid (Trs w4 (Kb (w.heap.size+1) u3) l (fun j=>xs[j]?)):=HKid.out.keep (fun b hb hl=>⟨hb,HO4.out.block b hl (by have:=hb.1;omega)⟩)) | (at_builtin;refine wpList_append_own_at _ rfl _ _ 57 rfl (w.heap.size+1) 88 i0 (.agg #[.int .u8 0,.int .u32 0,.slice none 0 0]) 3 32 Tryz.underlying57 hi hz0 hz1 hz2 rfl (by decide) _ _ _ rfl (HOwn4.out.alloc _) ⟨w4.heap.size,0,none⟩ 1 1 [.int .u8 o,.int .u32 s,.slice a k c] rfl rfl (ex_news _ _ _ _) (ex_cells _ _ _ _ _) (by unfold maxLen;omega) (by omega) (by simp;omega) ?_;intro v5 w5 hown5 hg5 _ hat5))
              go_roundg ts2.length
              case measure=>simp only [List.length_cons];omega
              case rel =>
                have hO5:Only (·=rb) w w5:=by
                  refine ⟨hg5.os.trans (HOr.out.trans HO4.out).os,hg5.tape.trans (HOr.out.trans HO4.out).tape,hg5.output.trans (HOr.out.trans HO4.out).output,Nat.le_trans (Nat.le_trans (HOr.out.trans HO4.out).size (by simp)) hg5.size,fun g hgl hgn=>?_⟩
                  have hlw:=(HOr.out.trans HO4.out).size
                  rw [hg5.block g (by simp;omega) (fun e=>by have:=(HOwn4.out.lt g e.symm).1;omega),Below.heap_alloc _ _ _ (by omega)]
                  exact (HOr.out.trans HO4.out).block g hgl hgn
                have hk5:∀ g,g < w4.heap.size→g < w.heap.size+1→w5.heap[g]?=w4.heap[g]?:=fun g h1 h2=>by
                  rw [hg5.block g (by simp;omega) (fun e=>by have:=(HOwn4.out.lt g e.symm).1;omega),Below.heap_alloc _ _ _ (by omega)]
                obtain ⟨i4,hR4,hs4,hi4⟩:=HI4.out
                refine ⟨ts2,m,p1,l++[e2],rfl,⟨i4,(hk5 rb hR4.lt (by omega)).trans hR4,hs4,hi4⟩,hO5,(hk5 w.heap.size (by omega) (by omega)).trans (HZr.out.only HO4.out (by omega)),?_,hln.2,by omega,by omega,by simp;omega,HE.out⟩
                refine Es.snoc HOwn4.out HKid4.out HT4.out (fun b hb=>⟨by omega,fun e=>?_⟩) hown5 hg5 hat5
                have:=(HOwn.out.lt b e).2
                omega
        · have hbgf:Rl.beg t=false:=by simpa using hbg
          have HBg:Hid (Rl.beg t=false):=hbgf
          rw [if_neg hbg] at hFr'
          have HE:Hid (F=.ok (Rl.mkSeq l,t :: tsr,pr)):=hFr'
          clear hb hFr' hbg
          have HEs:Hid (Es wr (w.heap.size+1) u3 l):=HEr
          obtain ⟨xs,hown,hkids⟩:=HEr
          match l,HEs,HE,hown,hkids with
          | [],HEs,HE,hown,hkids =>
            obtain ⟨a,cap,rfl⟩:=own_form hown
            clear hown hkids
            go_wp2_with (first | (go_at_call 30;refine (next_ok rb S _ t tsr _ HIr.out hS HB.out).mono ?_;rintro e w1 ⟨rfl,hR1,hs1,he1,ho1⟩;have HI1:Hid (In w1 rb S (x.withPl pr) (t :: tsr)):=⟨_,hR1,hs1,by omega⟩;clear hR1 hs1) | (go_at_call 107;refine (begins_any t _ (by omega)).mono ?_;rintro e w2 ⟨rfl,ho2⟩;have HI2:Hid (In w2 rb S (x.withPl pr) (t :: tsr)):=HI1.out.only ho2 (fun h=>h);have HO2:Hid (Only (·=rb) wr w2):=ho1.trans (ho2.mono (fun _ h=>h.elim));have Z2:Hid (Xb w2 w.heap.size (.int .u8 0) (.int .u32 0) (.slice none 0 0)):=HZr.out.only HO2.out (by omega);have z0:=Z2.out.c0;have z1:=Z2.out.c1;have z2:=Z2.out.c2;have zf0:=Z2.out.fz 0;have zf1:=Z2.out.fz 1;have zf2:=Z2.out.fz 2))
            refine bodyPost_ret (v:=.agg #[.int .u8 0,.int .u32 0,.slice none 0 0]) (results_x rfl _ rfl (Z2.out.set3 _ _ _)) rfl ?_
            rw [HE.out]
            exact ⟨_,rfl,Tr.leaf _ _ _ _,HI2.out.set3 (z:=w.heap.size) (by omega) _ _ _,(HOr.out.trans HO2.out).set3 (z:=w.heap.size) (Nat.le_refl _) _ _ _⟩
          | [e1],HEs,HE,hown,hkids =>
            obtain ⟨o,s,k,rfl,hT1⟩:=hkids.one hown.1
            obtain ⟨g,cap,rfl,hgb,hgl,hcap,hcells⟩:=row_form hown (by simp)
            have HT1:Hid (Tr wr (Kb (w.heap.size+1) (.slice (some ⟨g,0,none⟩) 1 cap)) e1 (.agg #[o,s,k])):=hT1
            have k0:wr.cell? ⟨g,0,none⟩=some o:=hcells 0 (by simp)
            have k1:wr.cell? ⟨g,1,none⟩=some s:=hcells 1 (by simp)
            have k2:wr.cell? ⟨g,2,none⟩=some k:=hcells 2 (by simp)
            have K0:Hid (wr.cell? ⟨g,0,none⟩=some o):=k0
            have K1:Hid (wr.cell? ⟨g,1,none⟩=some s):=k1
            have K2:Hid (wr.cell? ⟨g,2,none⟩=some k):=k2
            obtain ⟨op,st,a,n',c',hform⟩:=hT1.form
            simp only [Value.agg.injEq,Array.mk.injEq,List.cons.injEq,and_true] at hform
            obtain ⟨rfl,rfl,rfl⟩:=hform
            clear hown hkids hcells k0 k1 k2 hT1
            go_wp2_with (first | (go_at_call 30;refine (next_ok rb S _ t tsr _ HIr.out hS HB.out).mono ?_;rintro e w1 ⟨rfl,hR1,hs1,he1,ho1⟩;have HI1:Hid (In w1 rb S (x.withPl pr) (t :: tsr)):=⟨_,hR1,hs1,by omega⟩;clear hR1 hs1) | (go_at_call 107;refine (begins_any t _ (by omega)).mono ?_;rintro e w2 ⟨rfl,ho2⟩;have HI2:Hid (In w2 rb S (x.withPl pr) (t :: tsr)):=HI1.out.only ho2 (fun h=>h);have HO2:Hid (Only (·=rb) wr w2):=ho1.trans (ho2.mono (fun _ h=>h.elim));have Z2:Hid (Xb w2 w.heap.size (.int .u8 0) (.int .u32 0) (.slice none 0 0)):=HZr.out.only HO2.out (by omega);have z0:=Z2.out.c0;have z1:=Z2.out.c1;have z2:=Z2.out.c2;have zf0:=Z2.out.fz 0;have zf1:=Z2.out.fz 1;have zf2:=Z2.out.fz 2;have j0:=(World.cell?_of_block (a:=⟨g,0,none⟩) (HO2.out.block g hgl (by omega))).trans K0.out;have j1:=(World.cell?_of_block (a:=⟨g,1,none⟩) (HO2.out.block g hgl (by omega))).trans K1.out;have j2:=(World.cell?_of_block (a:=⟨g,2,none⟩) (HO2.out.block g hgl (by omega))).trans K2.out))
            refine bodyPost_ret (v:=.agg #[.int .u8 op,.int .u32 st,.slice a n' c']) (results_x rfl _ rfl (Z2.out.set3 _ _ _)) rfl ?_
            rw [HE.out]
            refine ⟨_,rfl,?_,HI2.out.set3 (z:=w.heap.size) (by omega) _ _ _,(HOr.out.trans HO2.out).set3 (z:=w.heap.size) (Nat.le_refl _) _ _ _⟩
            refine HT1.out.keep fun b hb hl=>⟨by have:=hb.1;omega,?_⟩
            exact (set3_other w2 (z:=w.heap.size) _ _ _ (by have:=hb.1;omega)).trans (HO2.out.block b hl (by have:=hb.1;omega))
          | e1 :: e2 :: l2,HEs,HE,hown,hkids =>
            obtain ⟨a,cap,rfl⟩:=own_form hown
            have q0:(((e1 :: e2 :: l2).length:Int) == 0)=false:=by simp;omega
            have q1:(((e1 :: e2 :: l2).length:Int) == 1)=false:=by simp;omega
            have Hown:Hid (wr.ownsRow (w.heap.size+1) 88 3 (.slice a (e1 :: e2 :: l2).length cap) (e1 :: e2 :: l2).length xs):=hown
            have Hkids:Hid (Trs wr (Kb (w.heap.size+1) (.slice a (e1 :: e2 :: l2).length cap)) (e1 :: e2 :: l2) (fun j=>xs[j]?)):=hkids
            clear hown hkids
            generalize hL:e1 :: e2 :: l2=L at *
            have HL:Hid (e1 :: e2 :: l2=L):=hL
            clear hL
            go_wp2_with (first | (go_at_call 30;refine (next_ok rb S _ t tsr _ HIr.out hS HB.out).mono ?_;rintro e w1 ⟨rfl,hR1,hs1,he1,ho1⟩;have HI1:Hid (In w1 rb S (x.withPl pr) (t :: tsr)):=⟨_,hR1,hs1,by omega⟩;clear hR1 hs1) | (go_at_call 107;refine (begins_any t _ (by omega)).mono ?_;rintro e w2 ⟨rfl,ho2⟩;have HI2:Hid (In w2 rb S (x.withPl pr) (t :: tsr)):=HI1.out.only ho2 (fun h=>h);have HO2:Hid (Only (·=rb) wr w2):=ho1.trans (ho2.mono (fun _ h=>h.elim));have Z2:Hid (Xb w2 w.heap.size (.int .u8 0) (.int .u32 0) (.slice none 0 0)):=HZr.out.only HO2.out (by omega);have z0:=Z2.out.c0;have z1:=Z2.out.c1;have z2:=Z2.out.c2;have zf0:=Z2.out.fz 0;have zf1:=Z2.out.fz 1;have zf2:=Z2.out.fz 2))
            refine bodyPost_ret (v:=.agg #[.int .u8 2,.int .u32 0,.slice a L.length cap]) (results_x rfl _ rfl (Z2.out.set3 _ _ _)) rfl ?_
            have hmk:Rl.mkSeq L=.mk 2 0 L:=by rw [← HL.out];rfl
            rw [HE.out,hmk]
            refine ⟨_,rfl,?_,HI2.out.set3 (z:=w.heap.size) (by omega) _ _ _,(HOr.out.trans HO2.out).set3 (z:=w.heap.size) (Nat.le_refl _) _ _ _⟩
            have hT:=Tr.row (F':=fun b=>w.heap.size+1≤b) 2 Hown.out Hkids.out (fun g hg=>(Hown.out.lt g hg).1) (fun b hb=>hb.1) (by rw [← HL.out];simp)
            refine hT.keep fun b hb hl=>⟨by omega,?_⟩
            exact (set3_other w2 (z:=w.heap.size) _ _ _ (by omega)).trans (HO2.out.block b hl (by omega))
end Go.Proofs.YtchaoonefiamdaaGreatDoor
