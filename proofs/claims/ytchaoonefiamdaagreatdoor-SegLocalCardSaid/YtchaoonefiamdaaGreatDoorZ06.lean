/- Tok Names Names2 -/
import Derived.Test.YtchaoonefiamdaaGreatDoorZ05
import Derived.Maps.OwnSet
import Derived.StringKeys
import Derived.Deep.LoopGhost
namespace Go.Proofs.YtchaoonefiamdaaGreatDoor
open Go.RowKit
set_option linter.unusedVariables false
set_option linter.unusedSimpArgs false
def In (w:World) (rb:Nat) (S:ByteArray) (x:Rd) (ts:List Rl.Tk):Prop:=∃ i:Nat,Rdr w rb S i x∧Rl.Strm S.data.toList i ts∧i≤S.size
theorem In.only {w w':World} {rb:Nat} {S:ByteArray} {x:Rd} {ts:List Rl.Tk} {P:Nat→Prop} (h:In w rb S x ts) (ho:Only P w w') (hn:¬ P rb):In w' rb S x ts:=by
  obtain ⟨i,h1,h2⟩:=h
  exact ⟨i,h1.only ho hn,h2⟩
theorem In.lt {w:World} {rb:Nat} {S:ByteArray} {x:Rd} {ts:List Rl.Tk} (h:In w rb S x ts):rb < w.heap.size:=by
  obtain ⟨i,h1,h2⟩:=h
  exact h1.lt
theorem In.alloc {w:World} {rb:Nat} {S:ByteArray} {x:Rd} {ts:List Rl.Tk} (h:In w rb S x ts) (o:Obj):In (w.alloc o) rb S x ts:=by
  obtain ⟨i,h1,h2⟩:=h
  exact ⟨i,h1.alloc o,h2⟩
theorem next_in (rb:Nat) (S:ByteArray) (x:Rd) (t:Rl.Tk) (ts:List Rl.Tk) (w:World) (h:In w rb S x (t :: ts)) (hS:S.size≤4096) :
    Calls Tryz.prog 30 #[.pointer (some ⟨rb,0,none⟩)] w fun e w'=>e=nextE t∧Rdr w' rb S (t.at':Int) x∧Rl.Strm S.data.toList t.at' (t :: ts)∧t.at'+t.text.length≤S.size∧Only (·=rb) w w':=by
  obtain ⟨i,h1,h2,h3⟩:=h
  refine (next_any rb S i x t ts w h1 h2 h3 hS).mono ?_
  rintro e w' ⟨h4,h5,h6⟩
  have e1:=Rl.strm_at h2
  refine ⟨h4,h5,by rw [e1];exact Rl.strm_nx h2,?_,h6⟩
  have:=Rl.tk_end S.data.toList i (by rw [← Lib.size_eq];exact h3)
  rw [h2.1,← Lib.size_eq] at *
  exact this
theorem nextE_bad {t:Rl.Tk} (h:t.bad=true):nextE t=.panicked (thr 20 t.at'):=if_pos h
theorem nextE_ok {t:Rl.Tk} (h:¬ t.bad=true):nextE t=.returned (.agg #[.string (bs t.text),.int .i64 (t.at':Int)]):=if_neg h
theorem bs_size (l:Rl.Str):(bs l).size=l.length:=by rw [Lib.size_eq,bs_data]
theorem bs_toList (l:Rl.Str):(bs l).toList=l:=by rw [Lib.toList_data,bs_data]
set_option maxRecDepth 100000 in
set_option maxHeartbeats 2000000 in
theorem take_any (rb:Nat) (S:ByteArray) (i:Int) (a:Nat) (s:Rl.Str) (x:Rd) (w:World) (hR:Rdr w rb S i x) (ha:a+s.length≤4096) :
    Calls Tryz.prog 32 #[.pointer (some ⟨rb,0,none⟩),.agg #[.string (bs s),.int .i64 (a:Int)]] w fun e w'=>e=.returned (.tuple #[])∧Rdr w' rb S ((a+s.length:Nat):Int) x∧Only (·=rb) w w':=by
  have c1:=hR.c1
  have hf1:=hR.fz 1
  have hlt:=hR.lt
  have HR:Hid (Rdr w rb S i x):=hR
  have hsz:=bs_size s
  have h0:0≤(a:Int):=by omega
  have h1:(a:Int)+(s.length:Int)≤4096:=by omega
  clear hR
  go_enter Tryz.func32,Tryz.ntmps32
  go_wp2
  go_end0
  have e1:((a+s.length:Nat):Int)=(a:Int)+(s.length:Int):=by omega
  rw [e1]
  exact ⟨rfl,(HR.out.set1 _).alloc _,((Only.refl (·=rb) w).setCell (p:=⟨rb,1,none⟩) rfl _).alloc _⟩
set_option maxRecDepth 100000 in
set_option maxHeartbeats 2000000 in
theorem isName_any (s:Rl.Str) (a:Int) (w:World) (hs:s.length≤4096):Calls Tryz.prog 60 #[.agg #[.string (bs s),.int .i64 a]] w fun e w'=>e=.returned (.bool (decide (0 < Rl.nml s)))∧Only (fun _=>False) w w':=by
  have hnl:=nameLen_any (bs s)
  rw [bs_data] at hnl
  obtain ⟨n,hn⟩:∃ n,n=Rl.nml s:=⟨_,rfl⟩
  rw [← hn] at hnl ⊢
  have Hnl:Hid (∀ w,Calls Tryz.prog 48 #[.string (bs s)] w (fun e w'=>e=.returned (.int .i64 (n:Int))∧w'=w)):=fun w=>hnl w (by rw [bs_size];omega)
  clear hn hnl
  go_enter Tryz.func60,Tryz.ntmps60
  go_wp2_with (go_at_call 48;refine (Hnl.out _).mono ?_;rintro e w' ⟨rfl,rfl⟩)
  go_ret
  exact ⟨rfl,(Only.refl _ w).alloc _⟩
theorem next_bad (rb:Nat) (S:ByteArray) (x:Rd) (t:Rl.Tk) (ts:List Rl.Tk) (w:World) (h:In w rb S x (t :: ts)) (hS:S.size≤4096) (hb:t.bad=true) :
    Calls Tryz.prog 30 #[.pointer (some ⟨rb,0,none⟩)] w fun e w'=>e=.panicked (thr 20 t.at')∧Only (·=rb) w w':=by
  refine (next_in rb S x t ts w h hS).mono ?_
  rintro e w' ⟨h4,h5,h6,h7,h8⟩
  exact ⟨h4.trans (nextE_bad hb),h8⟩
theorem next_ok (rb:Nat) (S:ByteArray) (x:Rd) (t:Rl.Tk) (ts:List Rl.Tk) (w:World) (h:In w rb S x (t :: ts)) (hS:S.size≤4096) (hb:¬ t.bad=true) :
    Calls Tryz.prog 30 #[.pointer (some ⟨rb,0,none⟩)] w fun e w'=>e=.returned (.agg #[.string (bs t.text),.int .i64 (t.at':Int)])∧Rdr w' rb S (t.at':Int) x∧Rl.Strm S.data.toList t.at' (t :: ts)∧t.at'+t.text.length≤S.size∧Only (·=rb) w w':=by
  refine (next_in rb S x t ts w h hS).mono ?_
  rintro e w' ⟨h4,h5⟩
  exact ⟨h4.trans (nextE_ok hb),h5⟩
def Pb (w:World) (b:Nat) (s:Rl.Str) (a:Nat):Prop:=w.heap[b]?=some (.cells #[.string (bs s),.int .i64 (a:Int)] 79 (0,0))
theorem Pb.new (w:World) (s:Rl.Str) (a:Nat):Pb (w.alloc (.cells #[.string (bs s),.int .i64 (a:Int)] 79)) w.heap.size s a:=heap_alloc_new _ _
theorem Pb.zero (w:World):Pb (w.alloc (.cells #[.string ⟨#[]⟩,.int .i64 0] 79)) w.heap.size [] 0:=heap_alloc_new _ _
theorem Pb.fz {w:World} {b:Nat} {s:Rl.Str} {a:Nat} (h:Pb w b s a) (k:Nat):w.frozen? ⟨b,k,none⟩=false:=by simp [World.frozen?,show w.heap[b]?=_ from h]
theorem Pb.c0 {w:World} {b:Nat} {s:Rl.Str} {a:Nat} (h:Pb w b s a):w.cell? ⟨b,0,none⟩=some (.string (bs s)):=(cell_of_row _ _ _ _ _ _ h).trans rfl
theorem Pb.c1 {w:World} {b:Nat} {s:Rl.Str} {a:Nat} (h:Pb w b s a):w.cell? ⟨b,1,none⟩=some (.int .i64 (a:Int)):=(cell_of_row _ _ _ _ _ _ h).trans rfl
theorem Pb.lt {w:World} {b:Nat} {s:Rl.Str} {a:Nat} (h:Pb w b s a):b < w.heap.size:=(Array.getElem?_eq_some_iff.1 h).1
theorem Pb.only {w w':World} {b:Nat} {s:Rl.Str} {a:Nat} {P:Nat→Prop} (h:Pb w b s a) (ho:Only P w w') (hn:¬ P b):Pb w' b s a:=(ho.block b h.lt hn).trans h
theorem Pb.alloc {w:World} {b:Nat} {s:Rl.Str} {a:Nat} (h:Pb w b s a) (o:Obj):Pb (w.alloc o) b s a:=(Below.heap_alloc _ _ _ h.lt).trans h
def tookP (rb:Nat) (S:ByteArray) (x:Rd) (w:World) (F:Rl.R (Bool × List Rl.Tk)) (e:Ending) (w':World):Prop :=
  match F with
  | .error f=>e=.panicked (thr f.1 f.2)∧Only (·=rb) w w'
  | .ok (b,ts)=>e=.returned (.bool b)∧In w' rb S x ts∧Only (·=rb) w w'
set_option maxRecDepth 100000 in
set_option maxHeartbeats 2000000 in
theorem took_any (c:UInt8) (rb:Nat) (S:ByteArray) (x:Rd) (ts:List Rl.Tk) (w:World) (h:In w rb S x ts) (hS:S.size≤4096) :
    Calls Tryz.prog 50 #[.pointer (some ⟨rb,0,none⟩),.string ⟨#[c]⟩] w (tookP rb S x w (Rl.took c ts)):=by
  cases ts with
  | nil=>obtain ⟨i,_,h2,_⟩:=h;exact h2.elim
  | cons t ts =>
    have hlt:=h.lt
    by_cases hb:t.bad=true
    · have hn:=next_bad rb S x t ts w h hS hb
      have hF:Rl.took c (t :: ts)=.error (20,t.at'):=by show (if _ then _ else _)=_;rw [if_pos hb]
      rw [hF]
      have HN:Hid (Calls Tryz.prog 30 #[.pointer (some ⟨rb,0,none⟩)] w fun e w'=>e=.panicked (thr 20 t.at')∧Only (·=rb) w w'):=hn
      clear hF hn h
      go_enter Tryz.func50,Tryz.ntmps50
      go_wp2_with (go_at_call 30;refine HN.out.mono ?_;rintro e w1 ⟨rfl,ho1⟩)
      exact ⟨rfl,rfl,ho1⟩
    · have hn:=next_ok rb S x t ts w h hS hb
      have HN:Hid (Calls Tryz.prog 30 #[.pointer (some ⟨rb,0,none⟩)] w fun e w'=>e=.returned (.agg #[.string (bs t.text),.int .i64 (t.at':Int)])∧Rdr w' rb S (t.at':Int) x∧Rl.Strm S.data.toList t.at' (t :: ts)∧t.at'+t.text.length≤S.size∧Only (·=rb) w w'):=hn
      have ht:=bs_toList t.text
      have hc0:(⟨#[c]⟩:ByteArray).toList=[c]:=by rw [Lib.toList_data]
      by_cases htx:t.text=[c]
      · have hF:Rl.took c (t :: ts)=.ok (true,ts):=by show (if _ then _ else _)=_;rw [if_neg hb,if_pos htx]
        rw [hF]
        have q:(t.text == [c])=true:=by rw [htx];simp
        have hne:Hid (t.text≠[]):=(by rw [htx];simp:t.text≠[])
        clear hF hn h hb htx
        go_enter Tryz.func50,Tryz.ntmps50
        go_wp2_with (first | (go_at_call 30;refine HN.out.mono ?_;rintro e w1 ⟨rfl,hR1,hs1,he1,ho1⟩;have HS1:Hid (Rl.Strm S.data.toList t.at' (t :: ts)):=hs1;clear hs1) | (go_at_call 32;refine (take_any rb S t.at' t.at' t.text x _ (hR1.alloc _) (by omega)).mono ?_;rintro e w2 ⟨rfl,hR2,ho2⟩))
        go_ret
        exact ⟨rfl,⟨_,hR2,Rl.strm_tail HS1.out hne.out,he1⟩,(ho1.alloc _).trans ho2⟩
      · have hF:Rl.took c (t :: ts)=.ok (false,t :: ts):=by show (if _ then _ else _)=_;rw [if_neg hb,if_neg htx]
        rw [hF]
        have q:(t.text == [c])=false:=by simpa using htx
        clear hF hn h hb htx
        go_enter Tryz.func50,Tryz.ntmps50
        go_wp2_with (go_at_call 30;refine HN.out.mono ?_;rintro e w1 ⟨rfl,hR1,hs1,he1,ho1⟩;have HS1:Hid (Rl.Strm S.data.toList t.at' (t :: ts)):=hs1;clear hs1)
        go_ret
        exact ⟨rfl,⟨_,hR1.alloc _,HS1.out,by omega⟩,ho1.alloc _⟩
def wantP (rb:Nat) (S:ByteArray) (x:Rd) (w:World) (F:Rl.R (List Rl.Tk)) (e:Ending) (w':World):Prop :=
  match F with
  | .error f=>e=.panicked (thr f.1 f.2)∧Only (·=rb) w w'
  | .ok ts=>e=.returned (.tuple #[])∧In w' rb S x ts∧Only (·=rb) w w'
set_option maxRecDepth 100000 in
set_option maxHeartbeats 2000000 in
theorem want_any (c:UInt8) (rb:Nat) (S:ByteArray) (x:Rd) (ts:List Rl.Tk) (w:World) (h:In w rb S x ts) (hS:S.size≤4096) :
    Calls Tryz.prog 33 #[.pointer (some ⟨rb,0,none⟩),.string ⟨#[c]⟩] w (wantP rb S x w (Rl.want c ts)):=by
  cases ts with
  | nil=>obtain ⟨i,_,h2,_⟩:=h;exact h2.elim
  | cons t ts =>
    have ht:=took_any c rb S x (t :: ts) w h hS
    by_cases hb:t.bad=true
    · have hF:Rl.want c (t :: ts)=.error (20,t.at'):=by show (if _ then _ else _)=_;rw [if_pos hb]
      have hF2:Rl.took c (t :: ts)=.error (20,t.at'):=by show (if _ then _ else _)=_;rw [if_pos hb]
      rw [hF]
      rw [hF2] at ht
      have HT:Hid (Calls Tryz.prog 50 #[.pointer (some ⟨rb,0,none⟩),.string ⟨#[c]⟩] w (tookP rb S x w (.error (20,t.at')))):=ht
      clear hF hF2 ht h
      go_enter Tryz.func33,Tryz.ntmps33
      go_wp2_with (go_at_call 50;refine HT.out.mono ?_;rintro e w1 ⟨rfl,ho1⟩)
      exact ⟨rfl,rfl,ho1⟩
    · by_cases htx:t.text=[c]
      · have hF:Rl.want c (t :: ts)=.ok ts:=by show (if _ then _ else _)=_;rw [if_neg hb,if_pos htx]
        have hF2:Rl.took c (t :: ts)=.ok (true,ts):=by show (if _ then _ else _)=_;rw [if_neg hb,if_pos htx]
        rw [hF]
        rw [hF2] at ht
        have HT:Hid (Calls Tryz.prog 50 #[.pointer (some ⟨rb,0,none⟩),.string ⟨#[c]⟩] w (tookP rb S x w (.ok (true,ts)))):=ht
        clear hF hF2 ht h
        go_enter Tryz.func33,Tryz.ntmps33
        go_wp2_with (go_at_call 50;refine HT.out.mono ?_;rintro e w1 ⟨rfl,hi1,ho1⟩)
        go_end0
        exact ⟨rfl,hi1,ho1⟩
      · have hF:Rl.want c (t :: ts)=.error (21,t.at'):=by show (if _ then _ else _)=_;rw [if_neg hb,if_neg htx]
        have hF2:Rl.took c (t :: ts)=.ok (false,t :: ts):=by show (if _ then _ else _)=_;rw [if_neg hb,if_neg htx]
        rw [hF]
        rw [hF2] at ht
        have HT:Hid (Calls Tryz.prog 50 #[.pointer (some ⟨rb,0,none⟩),.string ⟨#[c]⟩] w (tookP rb S x w (.ok (false,t :: ts)))):=ht
        have HB:Hid (¬ t.bad=true):=hb
        clear hF hF2 ht h hb htx
        go_enter Tryz.func33,Tryz.ntmps33
        go_wp2_with (first | (go_at_call 50;refine HT.out.mono ?_;rintro e w1 ⟨rfl,hi1,ho1⟩) | (go_at_call 30;refine (next_ok rb S x t ts _ hi1 hS HB.out).mono ?_;rintro e w2 ⟨rfl,hR2,hs2,he2,ho2⟩) | (go_at_call 31;refine (throw_any 21 t.at' _).mono ?_;rintro e w3 ⟨rfl,rfl⟩))
        rename_i hK
        refine hK _ _ ?_
        go_wp2_with (go_at_call 31;refine (throw_any 21 t.at' _).mono ?_;rintro e w3 ⟨rfl,rfl⟩)
        exact ⟨rfl,rfl,ho1.trans ho2⟩
def nameP (rb:Nat) (S:ByteArray) (x:Rd) (w:World) (F:Rl.R (Rl.Tk × List Rl.Tk)) (e:Ending) (w':World):Prop :=
  match F with
  | .error f=>e=.panicked (thr f.1 f.2)∧Only (·=rb) w w'
  | .ok (t,ts)=>e=.returned (.agg #[.string (bs t.text),.int .i64 (t.at':Int)])∧In w' rb S x ts∧Only (·=rb) w w'
theorem isNm_iff (t:Rl.Tk):Rl.isNm t=decide (0 < Rl.nml t.text):=rfl
theorem isNm_ne {t:Rl.Tk} (h:Rl.isNm t=true):t.text≠[]:=by
  intro e
  rw [isNm_iff,e] at h
  simp [Rl.nml] at h
set_option maxRecDepth 100000 in
set_option maxHeartbeats 2000000 in
theorem name_any (rb:Nat) (S:ByteArray) (x:Rd) (ts:List Rl.Tk) (w:World) (h:In w rb S x ts) (hS:S.size≤4096) :
    Calls Tryz.prog 81 #[.pointer (some ⟨rb,0,none⟩)] w (nameP rb S x w (Rl.name ts)):=by
  cases ts with
  | nil=>obtain ⟨i,_,h2,_⟩:=h;exact h2.elim
  | cons t ts =>
    have HI:Hid (In w rb S x (t :: ts)):=h
    have hlt:=h.lt
    clear h
    by_cases hb:t.bad=true
    · have hF:Rl.name (t :: ts)=.error (20,t.at'):=by show (if _ then _ else _)=_;rw [if_pos hb]
      rw [hF]
      clear hF
      have HB:Hid (t.bad=true):=hb
      clear hb
      go_enter Tryz.func81,Tryz.ntmps81
      go_wp2_with (go_at_call 30;refine (next_bad rb S x t ts _ (HI.out.alloc _) hS HB.out).mono ?_;rintro e w1 ⟨rfl,ho1⟩)
      exact ⟨rfl,rfl,((Only.refl _ w).alloc _).trans ho1⟩
    · have HB:Hid (¬ t.bad=true):=hb
      by_cases hnm:Rl.isNm t=true
      · have hF:Rl.name (t :: ts)=.ok (t,ts):=by show (if _ then _ else _)=_;rw [if_neg hb,if_pos hnm]
        rw [hF]
        have HM:Hid (Rl.isNm t=true):=hnm
        have hq:decide (0 < Rl.nml t.text)=true:=hnm
        clear hF hb hnm
        go_enter Tryz.func81,Tryz.ntmps81
        go_wp2_with (first | (go_at_call 30;refine (next_ok rb S x t ts _ (HI.out.alloc _) hS HB.out).mono ?_;rintro e w1 ⟨rfl,hR1,hs1,he1,ho1⟩;have HS1:Hid (Rl.Strm S.data.toList t.at' (t :: ts)):=hs1;clear hs1;have hl1:=ho1.size;simp at hl1) | (go_at_call 60;refine (isName_any t.text _ _ (by omega)).mono ?_;rintro e w2 ⟨rfl,ho2⟩;have hR2:=(hR1.alloc _).only ho2 (fun h=>h);have P2:Hid (Pb w2 w1.heap.size t.text t.at'):=(Pb.new w1 _ _).only ho2 (fun h=>h);have p0:=P2.out.c0;have p1:=P2.out.c1) | (go_at_call 32;refine (take_any rb S t.at' t.at' t.text x _ hR2 (by omega)).mono ?_;rintro e w3 ⟨rfl,hR3,ho3⟩;have P3:Hid (Pb w3 w1.heap.size t.text t.at'):=P2.out.only ho3 (by omega);have p0:=P3.out.c0;have p1:=P3.out.c1;have Q3:Hid (Pb w3 w.heap.size [] 0):=((((Pb.zero w).only ho1 (by omega)).alloc _).only ho2 (fun h=>h)).only ho3 (by omega);have q0:=Q3.out.c0;have q1:=Q3.out.c1;have qf0:=Q3.out.fz 0;have qf1:=Q3.out.fz 1;have HO:Hid (Only (·=rb) w w3):=((((Only.refl (·=rb) w).alloc _).trans ho1).alloc _).trans ((ho2.mono (fun _ h=>h.elim)).trans ho3)))
        refine bodyPost_ret (v:=.agg #[.string (bs t.text),.int .i64 (t.at':Int)]) (by simp [results,Tryz.results81,go_sem,q0,q1]) rfl ?_
        exact ⟨rfl,⟨_,(hR3.setOther (by show w.heap.size≠rb;omega) _).setOther (by show w.heap.size≠rb;omega) _,Rl.strm_tail HS1.out (isNm_ne HM.out),he1⟩,(HO.out.setNew (Nat.le_refl _) _).setNew (Nat.le_refl _) _⟩
      · have hF:Rl.name (t :: ts)=.error (21,t.at'):=by show (if _ then _ else _)=_;rw [if_neg hb,if_neg hnm]
        rw [hF]
        have hq:decide (0 < Rl.nml t.text)=false:=by simpa [isNm_iff] using hnm
        clear hF hb hnm
        go_enter Tryz.func81,Tryz.ntmps81
        go_wp2_with (first | (go_at_call 30;refine (next_ok rb S x t ts _ (HI.out.alloc _) hS HB.out).mono ?_;rintro e w1 ⟨rfl,hR1,hs1,he1,ho1⟩;have HS1:Hid (Rl.Strm S.data.toList t.at' (t :: ts)):=hs1;clear hs1;have hl1:=ho1.size;simp at hl1) | (go_at_call 60;refine (isName_any t.text _ _ (by omega)).mono ?_;rintro e w2 ⟨rfl,ho2⟩;have P2:Hid (Pb w2 w1.heap.size t.text t.at'):=(Pb.new w1 _ _).only ho2 (fun h=>h);have p0:=P2.out.c0;have p1:=P2.out.c1) | (go_at_call 31;refine (throw_any 21 t.at' _).mono ?_;rintro e w3 ⟨rfl,rfl⟩))
        exact ⟨rfl,rfl,((((Only.refl (·=rb) w).alloc _).trans ho1).alloc _).trans (ho2.mono (fun _ h=>h.elim))⟩
end Go.Proofs.YtchaoonefiamdaaGreatDoor
namespace Go.Proofs.YtchaoonefiamdaaGreatDoor
open Go.RowKit Go.Maps
set_option linter.unusedVariables false
set_option linter.unusedSimpArgs false
theorem law9:Keyed Tryz.prog 9:=string_keyed Tryz.underlying9
theorem zero34 (w:World):(zeroValue 42).run Tryz.prog w=.ok (.int .u32 0) w:=by kernel_rfl
def Mp (w:World) (mb:Nat) (E:Rl.Env):Prop:=∃ D:DataW Unit,w.ownsMap Tryz.prog 9 (plainElem Tryz.prog 42) mb E.length D∧IsMap D∧∀ s:Rl.Str,D.atKey (.string s) (.lit (.int .u32 0))=.lit (.int .u32 ((Rl.find E s).getD 0))∧Maps.has D (.string s)=(Rl.find E s).isSome
theorem key9 (s:Rl.Str) (hs:s.length≤4096):keyOf Tryz.prog 9 (.string (bs s))=some (.string s):=by
  have hs':(bs s).size≤maxLen:=by rw [bs_size];unfold maxLen;omega
  unfold keyOf
  simp [Tryz.underlying9,mapKey,hs']
  rfl
theorem Mp.look {w:World} {mb:Nat} {E:Rl.Env} (h:Mp w mb E) {s:Rl.Str} (hs:s.length≤4096) :
    (Instr.lookup 54 (.map (some mb)) (.string (bs s)) true).run Tryz.prog w=.ok (.tuple #[.int .u32 ((Rl.find E s).getD 0),.bool (Rl.find E s).isSome]) w:=by
  obtain ⟨D,h1,hm,h2⟩:=h
  obtain ⟨v,ps,hr,hv⟩:=h1.look_ok law9 Tryz.underlying54 (zero34 w) (plainElem_int Tryz.underlying42 (by decide)) (key9 s hs)
  obtain ⟨c,rfl,hc,_⟩:=plainElem_int_inv Tryz.underlying42 hv
  have e1:=congrArg Prod.fst hc
  simp only at e1
  rw [(h2 s).1] at e1
  have e2:(Rl.find E s).getD 0=c:=by
    have e3:=DataW.lit.inj e1
    exact (Lit.int.inj e3).2
  rw [hr,(h2 s).2,e2]
theorem Mp.lt {w:World} {mb:Nat} {E:Rl.Env} (h:Mp w mb E):mb < w.heap.size:=by
  obtain ⟨D,⟨es,cl,h1,_⟩,_⟩:=h
  exact (Array.getElem?_eq_some_iff.1 h1).1
theorem Mp.only {w w':World} {mb:Nat} {E:Rl.Env} {P:Nat→Prop} (h:Mp w mb E) (ho:Only P w w') (hn:¬ P mb):Mp w' mb E:=by
  have hl:=h.lt
  obtain ⟨D,⟨es,cl,h1,h2⟩,h3⟩:=h
  exact ⟨D,⟨es,cl,(ho.block mb hl hn).trans h1,h2⟩,h3⟩
theorem Mp.drewN {w:World} {mb:Nat} {E:Rl.Env} (h:Mp w mb E) (n:Nat):Mp (w.drewN n) mb E:=h
theorem Mp.alloc {w:World} {mb:Nat} {E:Rl.Env} (h:Mp w mb E) (o:Obj):Mp (w.alloc o) mb E:=h.only ((Only.refl (fun _=>False) w).alloc o) (fun h=>h)
def clsP (rb:Nat) (S:ByteArray) (x:Rd) (w:World) (F:Rl.R (Int × List Rl.Tk)) (e:Ending) (w':World):Prop :=
  match F with
  | .error f=>e=.panicked (thr f.1 f.2)∧Only (·=rb) w w'
  | .ok (b,ts)=>e=.returned (.int .u32 b)∧In w' rb S x ts∧Only (·=rb) w w'
def clsF (E:Rl.Env) (ts:List Rl.Tk):Rl.R (Int × List Rl.Tk) :=
  match Rl.name ts with
  | .error f=>.error f
  | .ok (t,ts1)=>match Rl.find E t.text with
    | none=>.error (22,t.at')
    | some b=>.ok (b,ts1)
theorem name_len {l:Rl.Str} {i:Nat} {ts:List Rl.Tk} {t:Rl.Tk} {ts1:List Rl.Tk} (h:Rl.Strm l i ts) (hn:Rl.name ts=.ok (t,ts1)):ts=t :: ts1∧t.text.length≤l.length:=by
  cases ts with
  | nil=>exact h.elim
  | cons t0 ts0 =>
    have hn':(if t0.bad=true then (Except.error (20,t0.at'):Rl.R (Rl.Tk × List Rl.Tk)) else if Rl.isNm t0=true then .ok (t0,ts0) else .error (21,t0.at'))=.ok (t,ts1):=hn
    split at hn'
    · cases hn'
    · split at hn'
      · injection hn' with hn'
        injection hn' with h1 h2
        subst h1 h2
        refine ⟨rfl,?_⟩
        rw [h.1,Rl.tk_len]
        have:=Rl.plen_le (l.drop (Rl.nx l i))
        rw [List.length_drop] at this
        omega
      · cases hn'
set_option maxRecDepth 100000 in
set_option maxHeartbeats 2000000 in
theorem classes_any (E:Rl.Env) (rb:Nat) (S:ByteArray) (x:Rd) (ts:List Rl.Tk) (w:World) (h:In w rb S x ts) (hS:S.size≤4096) (hM:Mp w x.mb E) (hmb:x.mb≠rb) :
    Calls Tryz.prog 83 #[.pointer (some ⟨rb,0,none⟩)] w (clsP rb S x w (clsF E ts)):=by
  have hn:=name_any rb S x ts w h hS
  have hlt:=h.lt
  obtain ⟨i,_,hs,hi⟩:=h
  cases hnm:Rl.name ts with
  | error f =>
    have hF:clsF E ts=.error f:=by unfold clsF;rw [hnm]
    rw [hF]
    rw [hnm] at hn
    have HN:Hid (Calls Tryz.prog 81 #[.pointer (some ⟨rb,0,none⟩)] w (nameP rb S x w (.error f))):=hn
    clear hF hnm hn hs
    go_enter Tryz.func83,Tryz.ntmps83
    go_wp2_with (go_at_call 81;refine HN.out.mono ?_;rintro e w1 ⟨rfl,ho1⟩)
    exact ⟨rfl,rfl,ho1⟩
  | ok r =>
    obtain ⟨t,ts1⟩:=r
    obtain ⟨_,htl⟩:=name_len hs hnm
    rw [← Lib.size_eq] at htl
    rw [hnm] at hn
    have HN:Hid (Calls Tryz.prog 81 #[.pointer (some ⟨rb,0,none⟩)] w (nameP rb S x w (.ok (t,ts1)))):=hn
    cases hf:Rl.find E t.text with
    | none =>
      have hF:clsF E ts=.error (22,t.at'):=by unfold clsF;rw [hnm];simp only [hf]
      rw [hF]
      have HF:Hid (Rl.find E t.text=none):=hf
      clear hF hnm hn hs hf
      go_enter Tryz.func83,Tryz.ntmps83
      go_wp2_with (go_at_call 81;refine HN.out.mono ?_;rintro e w1 ⟨rfl,hi1,ho1⟩;have HI1:Hid (In w1 rb S x ts1):=hi1;obtain ⟨i1,hR1,_,_⟩:=hi1;have d7:=hR1.c7;have hlk:∀ n,(Instr.lookup 54 (.map (some x.mb)) (.string (bs t.text)) true).run Tryz.prog ((w1.alloc (.cells #[.string (bs t.text),.int .i64 (t.at':Int)] 79)).drewN n)=.ok (.tuple #[.int .u32 0,.bool false]) ((w1.alloc (.cells #[.string (bs t.text),.int .i64 (t.at':Int)] 79)).drewN n):=(fun n=>by have:=(((hM.only ho1 hmb).alloc (.cells #[.string (bs t.text),.int .i64 (t.at':Int)] 79)).drewN n).look (s:=t.text) (by omega);rw [HF.out] at this;exact this);have hl1:=hR1.lt)
      go_quiet (fail)
      go_wp2_with (go_at_call 31;refine (throw_any 22 t.at' _).mono ?_;rintro e w3 ⟨rfl,rfl⟩)
      exact ⟨rfl,rfl,(ho1.alloc _).drewN _⟩
    | some b =>
      have hF:clsF E ts=.ok (b,ts1):=by unfold clsF;rw [hnm];simp only [hf]
      rw [hF]
      have HF:Hid (Rl.find E t.text=some b):=hf
      clear hF hnm hn hs hf
      go_enter Tryz.func83,Tryz.ntmps83
      go_wp2_with (go_at_call 81;refine HN.out.mono ?_;rintro e w1 ⟨rfl,hi1,ho1⟩;have HI1:Hid (In w1 rb S x ts1):=hi1;obtain ⟨i1,hR1,_,_⟩:=hi1;have d7:=hR1.c7;have hlk:∀ n,(Instr.lookup 54 (.map (some x.mb)) (.string (bs t.text)) true).run Tryz.prog ((w1.alloc (.cells #[.string (bs t.text),.int .i64 (t.at':Int)] 79)).drewN n)=.ok (.tuple #[.int .u32 b,.bool true]) ((w1.alloc (.cells #[.string (bs t.text),.int .i64 (t.at':Int)] 79)).drewN n):=(fun n=>by have:=(((hM.only ho1 hmb).alloc (.cells #[.string (bs t.text),.int .i64 (t.at':Int)] 79)).drewN n).look (s:=t.text) (by omega);rw [HF.out] at this;exact this);have hl1:=hR1.lt)
      go_quiet (fail)
      go_wp2_with fail
      go_ret
      exact ⟨rfl,(HI1.out.alloc _).only ((Only.refl (fun _=>False) _).drewN _) (fun h=>h),(ho1.alloc _).drewN _⟩
end Go.Proofs.YtchaoonefiamdaaGreatDoor
namespace Go.Proofs.YtchaoonefiamdaaGreatDoor
open Go.RowKit Go.Maps
set_option linter.unusedVariables false
set_option linter.unusedSimpArgs false
theorem names_cons (E:Rl.Env) (t:Rl.Tk) (ts:List Rl.Tk) (acc:Int):Rl.names E (t :: ts) acc=if t.bad=true then .error (20,t.at') else if Rl.isNm t=true then
      match Rl.find E t.text with
      | none=>.error (22,t.at')
      | some b=>Rl.names E ts (Rl.bor acc b)
    else .ok (acc,t :: ts):=rfl
theorem name_cons (t:Rl.Tk) (ts:List Rl.Tk):Rl.name (t :: ts)=if t.bad=true then .error (20,t.at') else if Rl.isNm t=true then .ok (t,ts) else .error (21,t.at'):=rfl
theorem clsF_some {E:Rl.Env} {t:Rl.Tk} {ts:List Rl.Tk} {b:Int} (hb:¬ t.bad=true) (hn:Rl.isNm t=true) (hf:Rl.find E t.text=some b):clsF E (t :: ts)=.ok (b,ts):=by
  unfold clsF
  rw [name_cons,if_neg hb,if_pos hn]
  simp only [hf]
theorem clsF_none {E:Rl.Env} {t:Rl.Tk} {ts:List Rl.Tk} (hb:¬ t.bad=true) (hn:Rl.isNm t=true) (hf:Rl.find E t.text=none):clsF E (t :: ts)=.error (22,t.at'):=by
  unfold clsF
  rw [name_cons,if_neg hb,if_pos hn]
  simp only [hf]
set_option maxRecDepth 100000 in
set_option maxHeartbeats 2000000 in
theorem names_any (E:Rl.Env) (rb:Nat) (S:ByteArray) (x:Rd) (ts:List Rl.Tk) (w:World) (h:In w rb S x ts) (hS:S.size≤4096) (hM:Mp w x.mb E) (hmb:x.mb≠rb) :
    Calls Tryz.prog 63 #[.pointer (some ⟨rb,0,none⟩)] w (clsP rb S x w (Rl.names E ts 0)):=by
  have HI:Hid (In w rb S x ts):=h
  have HM:Hid (Mp w x.mb E):=hM
  clear h hM
  obtain ⟨F,hF⟩:∃ F,F=Rl.names E ts 0:=⟨_,rfl⟩
  have HF:Hid (F=Rl.names E ts 0):=hF
  rw [← hF]
  clear hF
  go_enter Tryz.func63,Tryz.ntmps63
  go_wp2_with fail
  go_loopg [3] ts.length (fun k v wr=>∃ (tsr:List Rl.Tk) (acc:Int),k=tsr.length∧v=.int .u32 acc∧In wr rb S x tsr∧Only (·=rb) w wr∧Hid (F=Rl.names E tsr acc))
  case atStart=>exact ⟨ts,0,rfl,rfl,HI.out,Only.refl _ _,HF.out⟩
  case round =>
    obtain ⟨tsr,acc,rfl,rfl,hIr,hOr,hFr⟩:=hrel
    cases tsr with
    | nil=>obtain ⟨i,_,h2,_⟩:=hIr;exact h2.elim
    | cons t tsr =>
      have HIr:Hid (In wr rb S x (t :: tsr)):=hIr
      have HOr:Hid (Only (·=rb) w wr):=hOr
      have HMr:Hid (Mp wr x.mb E):=HM.out.only hOr hmb
      have hFr':=hFr.out
      rw [names_cons] at hFr'
      clear hIr hOr hFr
      by_cases hb:t.bad=true
      · have HB:Hid (t.bad=true):=hb
        rw [if_pos hb] at hFr'
        have HE:Hid (F=.error (20,t.at')):=hFr'
        clear hb hFr'
        go_wp2_with (go_at_call 30;refine (next_bad rb S x t tsr _ HIr.out hS HB.out).mono ?_;rintro e w1 ⟨rfl,ho1⟩)
        refine ⟨rfl,?_⟩
        rw [HE.out]
        exact ⟨rfl,HOr.out.trans ho1⟩
      · have HB:Hid (¬ t.bad=true):=hb
        rw [if_neg hb] at hFr'
        by_cases hnm:Rl.isNm t=true
        · have hq:decide (0 < Rl.nml t.text)=true:=hnm
          have HNM:Hid (Rl.isNm t=true):=hnm
          rw [if_pos hnm] at hFr'
          cases hf:Rl.find E t.text with
          | none =>
            rw [hf] at hFr'
            have HE:Hid (F=.error (22,t.at')):=hFr'
            have HC:Hid (clsF E (t :: tsr)=.error (22,t.at')):=clsF_none hb hnm hf
            clear hb hnm hFr' hf
            go_wp2_with (first | (go_at_call 30;refine (next_ok rb S x t tsr _ HIr.out hS HB.out).mono ?_;rintro e w1 ⟨rfl,hR1,hs1,he1,ho1⟩;have HS1:Hid (Rl.Strm S.data.toList t.at' (t :: tsr)):=hs1;clear hs1) | (go_at_call 60;refine (isName_any t.text _ _ (by omega)).mono ?_;rintro e w2 ⟨rfl,ho2⟩;have hI2:In w2 rb S x (t :: tsr):=⟨_,hR1.only ho2 (fun h=>h),HS1.out,by omega⟩;have HI2:Hid (In w2 rb S x (t :: tsr)):=hI2;clear hI2;have ho12:Only (·=rb) wr w2:=ho1.trans (ho2.mono (fun _ h=>h.elim));have HO12:Hid (Only (·=rb) wr w2):=ho12;clear ho12) | (go_at_call 83;have hc:=classes_any E rb S x (t :: tsr) _ HI2.out hS (HMr.out.only HO12.out hmb) hmb;rw [HC.out] at hc;refine hc.mono ?_;clear hc;rintro e w3 ⟨rfl,ho3⟩))
            refine ⟨rfl,?_⟩
            rw [HE.out]
            exact ⟨rfl,HOr.out.trans (HO12.out.trans ho3)⟩
          | some b =>
            rw [hf] at hFr'
            have HE:Hid (F=Rl.names E tsr (Rl.bor acc b)):=hFr'
            have HC:Hid (clsF E (t :: tsr)=.ok (b,tsr)):=clsF_some hb hnm hf
            clear hb hnm hFr' hf
            go_wp2_with (first | (go_at_call 30;refine (next_ok rb S x t tsr _ HIr.out hS HB.out).mono ?_;rintro e w1 ⟨rfl,hR1,hs1,he1,ho1⟩;have HS1:Hid (Rl.Strm S.data.toList t.at' (t :: tsr)):=hs1;clear hs1) | (go_at_call 60;refine (isName_any t.text _ _ (by omega)).mono ?_;rintro e w2 ⟨rfl,ho2⟩;have hI2:In w2 rb S x (t :: tsr):=⟨_,hR1.only ho2 (fun h=>h),HS1.out,by omega⟩;have HI2:Hid (In w2 rb S x (t :: tsr)):=hI2;clear hI2;have ho12:Only (·=rb) wr w2:=ho1.trans (ho2.mono (fun _ h=>h.elim));have HO12:Hid (Only (·=rb) wr w2):=ho12;clear ho12) | (go_at_call 83;have hc:=classes_any E rb S x (t :: tsr) _ HI2.out hS (HMr.out.only HO12.out hmb) hmb;rw [HC.out] at hc;refine hc.mono ?_;clear hc;rintro e w3 ⟨rfl,hi3,ho3⟩))
            go_roundg tsr.length
            case measure=>simp
            case rel=>exact ⟨tsr,Rl.bor acc b,rfl,rfl,hi3,HOr.out.trans (HO12.out.trans ho3),HE.out⟩
        · have hq:decide (0 < Rl.nml t.text)=false:=by simpa [isNm_iff] using hnm
          rw [if_neg hnm] at hFr'
          have HE:Hid (F=.ok (acc,t :: tsr)):=hFr'
          clear hb hnm hFr'
          go_wp2_with (first | (go_at_call 30;refine (next_ok rb S x t tsr _ HIr.out hS HB.out).mono ?_;rintro e w1 ⟨rfl,hR1,hs1,he1,ho1⟩;have HS1:Hid (Rl.Strm S.data.toList t.at' (t :: tsr)):=hs1;clear hs1) | (go_at_call 60;refine (isName_any t.text _ _ (by omega)).mono ?_;rintro e w2 ⟨rfl,ho2⟩))
          go_ret
          rw [HE.out]
          exact ⟨rfl,⟨_,hR1.only ho2 (fun h=>h),HS1.out,by omega⟩,HOr.out.trans (ho1.trans (ho2.mono (fun _ h=>h.elim)))⟩
end Go.Proofs.YtchaoonefiamdaaGreatDoor
