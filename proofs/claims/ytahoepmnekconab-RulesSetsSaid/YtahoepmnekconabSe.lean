/-
  RulesSets: what is read of its text; no program in it.
-/
import Derived.Test.YtahoepmnekconabMd
namespace Go.Proofs.Ytahoepmnekconab
set_option linter.unusedVariables false
set_option linter.unusedSimpArgs false
namespace Rl
def c1 : Str := [99, 108, 97, 115, 115, 32, 65, 32, 66, 32, 67, 32, 68, 32, 69, 32, 70, 59, 32, 115, 101, 116, 32, 83, 32, 61]
def c2 : Str := [59, 32, 115, 101, 116, 32, 84, 32, 61]
def c3 : Str := [32, 83, 59, 32, 107, 101, 101, 112, 32, 91]
def sg (no : Bool) : Str := if no = true then [94] else []
def c4 : Str := [32, 83, 32, 84, 93, 32, 47, 32, 84, 59, 32, 109, 97, 121, 32, 83, 32, 47, 32, 46, 32, 59]
def stext (a b : Nat) (no : Bool) : Str := ((((((c1 ++ Hd.names 6 a 6) ++ c2) ++ Hd.names 6 b 6) ++ c3) ++ sg no) ++ c4)
def x1 : List Str := [wClass, [65], [66], [67], [68], [69], [70], [59], wSet, [83], [61]]
def x2 : List Str := [[59], wSet, [84], [61]]
def x3 : List Str := [[83], [59], wKeep, [91]]
def xg (no : Bool) : List Str := if no = true then [[94]] else []
def x4 : List Str := [[83], [84], [93], [47], [84], [59], wMay, [83], [47], [46], [59]]
def sxt (a b : Nat) (no : Bool) : List Str := ((((((x1 ++ nmx 6 a 6) ++ x2) ++ nmx 6 b 6) ++ x3) ++ xg no) ++ x4)
theorem bl32 : Lz [32] [] := Lz.blank 32 (by decide)
theorem fz32 (l : Str) : Fz (32 :: l) := Fz.one 32 l rfl
theorem wb (w : Str) (hw : w ≠ []) (ha : ∀ c ∈ w, isN c = true) : Lz (w ++ [32]) [w] := (Lx.word w hw ha).appz (fz32 []) bl32
theorem lz_c1 : Lz c1 x1 := by
  have h := ((((((((((wb wClass (by decide) (by decide)).app (wb [65] (by decide) (by decide))).app (wb [66] (by decide) (by decide))).app (wb [67] (by decide) (by decide))).app (wb [68] (by decide) (by decide))).app (wb [69] (by decide) (by decide))).app ((Lx.word [70] (by decide) (by decide)).appz (Fz.one 59 [] rfl) (Lz.sign 59 rfl))).app bl32).app (wb wSet (by decide) (by decide))).app (wb [83] (by decide) (by decide))).app (Lz.sign 61 rfl)
  exact h
theorem lz_c2 : Lz c2 x2 := (((Lz.sign 59 rfl).app bl32).app (wb wSet (by decide) (by decide))).app ((wb [84] (by decide) (by decide)).app (Lz.sign 61 rfl))
theorem fz_c2 : Fz c2 := Fz.one 59 _ rfl
theorem lz_c3 : Lz c3 x3 := ((bl32.app ((Lx.word [83] (by decide) (by decide)).appz (Fz.one 59 [] rfl) (Lz.sign 59 rfl))).app (bl32.app (wb wKeep (by decide) (by decide)))).app (Lz.sign 91 rfl)
theorem fz_c3 : Fz c3 := fz32 _
theorem lz_sg (no : Bool) : Lz (sg no) (xg no) := by
  cases no with
  | true => exact Lz.sign 94 rfl
  | false => exact Lz.nil
theorem lz_c4 : Lz c4 x4 := by
  have w83 := Lx.word [83] (by decide) (by decide)
  have w84 := Lx.word [84] (by decide) (by decide)
  have h1 : Lz [32, 83, 32, 84, 93, 32, 47, 32, 84, 59] [[83], [84], [93], [47], [84], [59]] :=
    (((bl32.app (wb [83] (by decide) (by decide))).app (w84.appz (Fz.one 93 [] rfl) (Lz.sign 93 rfl))).app (bl32.app ((Lz.sign 47 rfl).app bl32))).app (w84.appz (Fz.one 59 [] rfl) (Lz.sign 59 rfl))
  have h2 : Lz [32, 109, 97, 121, 32, 83, 32, 47, 32, 46, 32, 59] [wMay, [83], [47], [46], [59]] :=
    ((bl32.app (wb wMay (by decide) (by decide))).app (wb [83] (by decide) (by decide))).app ((((Lz.sign 47 rfl).app bl32).app (Lz.sign 46 rfl)).app (bl32.app (Lz.sign 59 rfl)))
  exact h1.app h2
theorem pc_stext (a b : Nat) (no : Bool) : Pc (stext a b no) (sxt a b no) := by
  have ha := (lx_names (n := 6) (by omega) (by omega) a 6).1
  have hb := (lx_names (n := 6) (by omega) (by omega) b 6).1
  have s1 := (lz_c1.appx ha).appz fz_c2 lz_c2
  have s2 := (s1.appx hb).appz fz_c3 lz_c3
  have := ((s2.app (lz_sg no)).app lz_c4) [] [] Pc.none
  rw [List.append_nil, List.append_nil] at this
  exact this
theorem fx6 : fx 6 = [wClass, [65], [66], [67], [68], [69], [70], [59]] := by decide
/-- the two sets, as bits. -/
def sv (a : Nat) : Int := ((a % 2 ^ 6 : Nat) : Int)
def tv (a b : Nat) : Int := bor ((b % 2 ^ 6 : Nat) : Int) (sv a)
def uv (a b : Nat) (no : Bool) : Int := if no = true then without (whole 6) (bor (bor 0 (sv a)) (tv a b)) else bor (bor 0 (sv a)) (tv a b)
def e0 : Env := (stc 6).env
def s1 (a : Nat) : St := { stc 6 with env := e0 ++ [([83], sv a)] }
def s2 (a b : Nat) : St := { stc 6 with env := (e0 ++ [([83], sv a)]) ++ [([84], tv a b)] }
def s3 (a b : Nat) (no : Bool) : St := { s2 a b with places := 2, list := [⟨0, .mk 1 (uv a b no) [], .mk 1 (tv a b) []⟩] }
def s4 (a b : Nat) (no : Bool) : St := { s2 a b with places := 4, list := [⟨0, .mk 1 (uv a b no) [], .mk 1 (tv a b) []⟩, ⟨1, .mk 1 (sv a) [], .mk 1 (whole 6) []⟩] }
theorem env_none (x : Str) (h : ∀ i, i < 6 → [(65 + i).toUInt8] ≠ x) : find e0 x = none := find_none (fun i hi => h i (List.mem_range.1 hi))
theorem e0_83 : find e0 [83] = none := env_none [83] (by decide)
theorem e0_84 : find e0 [84] = none := env_none [84] (by decide)
theorem e1_83 (a : Nat) : find (e0 ++ [([83], sv a)]) [83] = some (sv a) := by rw [find_app e0_83]; rfl
theorem e1_84 (a : Nat) : find (e0 ++ [([83], sv a)]) [84] = none := by rw [find_app e0_84]; rfl
theorem e2_83 (a b : Nat) : find ((e0 ++ [([83], sv a)]) ++ [([84], tv a b)]) [83] = some (sv a) := find_app2 (e1_83 a)
theorem e2_84 (a b : Nat) : find ((e0 ++ [([83], sv a)]) ++ [([84], tv a b)]) [84] = some (tv a b) := by rw [find_app (e1_84 a)]; rfl
theorem envOk0 : EnvOk e0 6 := stc_env (Nat.le_refl _) 6 (Nat.le_refl _)
theorem envOk1 (a : Nat) : EnvOk (e0 ++ [([83], sv a)]) 6 := fun k hk => find_app2 (envOk0 k hk)
theorem nm83 : isNm (z [83]) = true := rfl
theorem nm84 : isNm (z [84]) = true := rfl
theorem names_one {E : Env} {x : Str} {b acc : Int} {K : List Tk} (hn : isNm (z x) = true) (hf : find E x = some b) : names E (z x :: K) acc = names E K (bor acc b) := by
  rw [names, if_neg (by exact Bool.false_ne_true), if_pos hn, z_text, hf]
theorem fresh_one {E : Env} {x : Str} {K : List Tk} (hn : isNm (z x) = true) (hf : find E x = none) : fresh E (z x :: K) = .ok (z x, K) := by
  unfold fresh
  rw [name, if_neg (by exact Bool.false_ne_true), if_pos hn]
  simp only
  rw [z_text, hf, if_neg (by exact Bool.false_ne_true)]
theorem set_line {s : St} {E : Env} {x : Str} {b : Int} {ts K : List Tk} (hs : s.env = E) (hn : isNm (z x) = true) (hf : find E x = none) (h : names E ts 0 = .ok (b, K)) : set' (z x :: z [61] :: ts) s = .ok (K, { s with env := E ++ [(x, b)] }) := by
  unfold set'
  rw [hs, fresh_one hn hf]
  simp only
  rw [want_yes]
  simp only
  rw [h]
  rfl
theorem rule_line {s : St} {E : Env} {n p p1 p2 : Nat} {a b : Ex} {ts K1 K2 : List Tk} (hs : s.env = E) (hn : s.cls.length = n) (hp : s.places = p) (hl : s.list.length ≠ 24) (d : Int) (h1 : either E n (fuel ts) 0 ts p = .ok (a, z [47] :: K1, p1)) (h2 : either E n (fuel K1) 0 K1 p1 = .ok (b, K2, p2)) :
    rule' d 0 ts s = .ok (K2, { s with places := p2, list := s.list ++ [⟨d, a, b⟩] }) := by
  unfold rule'
  rw [if_neg hl, hs, hn, hp, h1]
  simp only
  rw [want_yes]
  simp only
  rw [h2]
theorem line2 (a : Nat) : Rds (stc 6) ((wSet :: ([[83], [61]] ++ nmx 6 a 6)) ++ [[59]]) (s1 a) := Rds.line (by decide) (fun K => by
  unfold Rl.line
  rw [z_text, if_neg (by decide), if_pos rfl]
  have e1 : tz ([[83], [61]] ++ nmx 6 a 6) ++ z [59] :: K = z [83] :: z [61] :: (tz (nmx 6 a 6) ++ z [59] :: K) := by simp [tz, List.append_assoc]
  rw [e1]
  exact set_line (E := e0) rfl nm83 e0_83 (by rw [names_x envOk0 (by omega) (by omega) a 6 (Nat.le_refl _), names_end rfl rfl]; rfl))
theorem line3 (a b : Nat) : Rds (s1 a) ((wSet :: (([[84], [61]] ++ nmx 6 b 6) ++ [[83]])) ++ [[59]]) (s2 a b) := Rds.line (by decide) (fun K => by
  unfold Rl.line
  rw [z_text, if_neg (by decide), if_pos rfl]
  have e1 : tz (([[84], [61]] ++ nmx 6 b 6) ++ [[83]]) ++ z [59] :: K = z [84] :: z [61] :: (tz (nmx 6 b 6) ++ z [83] :: z [59] :: K) := by simp [tz, List.append_assoc]
  rw [e1]
  exact set_line (E := e0 ++ [([83], sv a)]) rfl nm84 (e1_84 a) (by rw [names_x (envOk1 a) (by omega) (by omega) b 6 (Nat.le_refl _), names_one nm83 (e1_83 a), names_end rfl rfl]; rfl))
/-- one thing alone is an expression. -/
theorem either_one {E : Env} {n f p p1 : Nat} {t u : Tk} {ts K : List Tk} {e : Ex} (hb : t.bad = false) (hg : beg t = true) (h : thing E n (f + 1) 0 (t :: ts) p = .ok (e, u :: K, p1)) (hu : u.bad = false) (hgu : beg u = false) (h124 : u.text ≠ [124]) (hr : Nr (u :: K)) : either E n (f + 3) 0 (t :: ts) p = .ok (e, u :: K, p1) := by
  rw [either, row_step hb hg h (often_no hr), row_end hu hgu]
  simp only
  rw [alts, took_no hu h124]
  rfl
theorem n47 (K : List Tk) : Nr (z [47] :: K) := Nr.mk rfl (by show ([47] : Str) ≠ [42]; decide) (by show ([47] : Str) ≠ [43]; decide) (by show ([47] : Str) ≠ [63]; decide)
theorem n59 (K : List Tk) : Nr (z [59] :: K) := Nr.mk rfl (by show ([59] : Str) ≠ [42]; decide) (by show ([59] : Str) ≠ [43]; decide) (by show ([59] : Str) ≠ [63]; decide)
theorem some_yes {E : Env} {n p : Nat} {x : Str} {b : Int} {K : List Tk} (hp : p < 200) (h1 : x ≠ [40]) (h2 : x ≠ [46]) (h3 : x ≠ [91]) (hf : find E x = some b) (f d : Nat) : thing E n (f + 1) d (z x :: K) p = .ok (.mk 1 b [], K, p + 1) := by
  rw [thing]
  rw [z_text, if_neg h1, some', if_neg (by omega), z_text, if_neg h2, if_neg h3, hf]
theorem set_yes {E : Env} {n p : Nat} {no : Bool} {s t : Int} {K : List Tk} (hp : p < 200) (h83 : find E [83] = some s) (h84 : find E [84] = some t) (f d : Nat) : thing E n (f + 1) d (z [91] :: (tz (xg no) ++ z [83] :: z [84] :: z [93] :: K)) p = .ok (.mk 1 (if no = true then without (whole n) (bor (bor 0 s) t) else bor (bor 0 s) t) [], K, p + 1) := by
  rw [thing]
  rw [if_neg (by show ([91] : Str) ≠ [40]; decide), some', if_neg (by omega), if_neg (by show ([91] : Str) ≠ [46]; decide), z_text, if_pos rfl]
  cases no with
  | true =>
    have e : tz (xg true) ++ z [83] :: z [84] :: z [93] :: K = z [94] :: z [83] :: z [84] :: z [93] :: K := rfl
    rw [e, took_yes]
    simp only
    rw [names_one nm83 h83, names_one nm84 h84, names_end rfl rfl]
    simp only
    rw [want_yes]
  | false =>
    have e : tz (xg false) ++ z [83] :: z [84] :: z [93] :: K = z [83] :: z [84] :: z [93] :: K := rfl
    rw [e, took_no rfl (by show ([83] : Str) ≠ [94]; decide)]
    simp only
    rw [names_one nm83 h83, names_one nm84 h84, names_end rfl rfl]
    simp only
    rw [want_yes]
def e2v (a b : Nat) : Env := (e0 ++ [([83], sv a)]) ++ [([84], tv a b)]
theorem line4 (a b : Nat) (no : Bool) : Rds (s2 a b) ((wKeep :: (([[91]] ++ xg no) ++ [[83], [84], [93], [47], [84]])) ++ [[59]]) (s3 a b no) := Rds.line (by decide) (fun K => by
  unfold Rl.line
  rw [z_text, if_neg (by decide), if_neg (by decide), if_neg (by decide), if_neg (by decide), if_pos rfl]
  have e1 : tz (([[91]] ++ xg no) ++ [[83], [84], [93], [47], [84]]) ++ z [59] :: K = z [91] :: (tz (xg no) ++ z [83] :: z [84] :: z [93] :: z [47] :: z [84] :: z [59] :: K) := by simp [tz, List.append_assoc]
  rw [e1]
  have f1 : fuel (z [91] :: (tz (xg no) ++ z [83] :: z [84] :: z [93] :: z [47] :: z [84] :: z [59] :: K)) = (4 * (tz (xg no) ++ z [83] :: z [84] :: z [93] :: z [47] :: z [84] :: z [59] :: K).length + 9) + 3 := by
    unfold fuel
    rw [List.length_cons]
    omega
  have f2 : fuel (z [84] :: z [59] :: K) = (4 * (z [59] :: K).length + 9) + 3 := by
    unfold fuel
    rw [List.length_cons]
    omega
  exact rule_line (s := s2 a b) (E := e2v a b) (n := 6) (p := 0) rfl rfl rfl (by show (0 : Nat) ≠ 24; decide) 0
    (by rw [f1]; exact either_one rfl rfl (set_yes (by decide) (e2_83 a b) (e2_84 a b) _ _) rfl rfl (by show ([47] : Str) ≠ [124]; decide) (n47 _))
    (by rw [f2]; exact either_one rfl rfl (some_yes (by decide) (by decide) (by decide) (by decide) (e2_84 a b) _ _) rfl rfl (by show ([59] : Str) ≠ [124]; decide) (n59 _)))
theorem line5 (a b : Nat) (no : Bool) : Rds (s3 a b no) ((wMay :: [[83], [47], [46]]) ++ [[59]]) (s4 a b no) := Rds.line (by decide) (fun K => by
  unfold Rl.line
  rw [z_text, if_neg (by decide), if_neg (by decide), if_neg (by decide), if_neg (by decide), if_neg (by decide), if_pos rfl]
  have e1 : tz [[83], [47], [46]] ++ z [59] :: K = z [83] :: z [47] :: z [46] :: z [59] :: K := rfl
  rw [e1]
  have f1 : fuel (z [83] :: z [47] :: z [46] :: z [59] :: K) = (4 * (z [47] :: z [46] :: z [59] :: K).length + 9) + 3 := by
    unfold fuel
    rw [List.length_cons]
    omega
  have f2 : fuel (z [46] :: z [59] :: K) = (4 * (z [59] :: K).length + 9) + 3 := by
    unfold fuel
    rw [List.length_cons]
    omega
  exact rule_line (s := s3 a b no) (E := e2v a b) (n := 6) (p := 2) rfl rfl rfl (by show (1 : Nat) ≠ 24; decide) 1
    (by rw [f1]; exact either_one rfl rfl (some_yes (by decide) (by decide) (by decide) (by decide) (e2_83 a b) _ _) rfl rfl (by show ([47] : Str) ≠ [124]; decide) (n47 _))
    (by rw [f2]; exact either_one rfl rfl (thing_dot _ _ _ _ (by decide)) rfl rfl (by show ([59] : Str) ≠ [124]; decide) (n59 _)))
theorem read_stext (a b : Nat) (no : Bool) {ts : List Tk} (h : Strm (stext a b no) 0 ts) : lines (ts.length + 1) ts st0 = .ok (s4 a b no) := by
  have h1 : Pk (stext a b no) (ts.map key) := pk_strm h
  have h2 : ts.map key = (sxt a b no).map (fun x => (x, false)) ++ [([], false)] := h1.one (pc_stext a b no)
  have h3 : ts.map er = tz (sxt a b no) ++ [z []] := by
    have g : ts.map er = (ts.map key).map (fun k => ⟨k.1, 0, k.2⟩) := by rw [List.map_map]; rfl
    rw [g, h2, List.map_append, List.map_map]
    rfl
  have hlen : ts.length = (sxt a b no).length + 1 := by
    have := congrArg List.length h2
    simpa using this
  have hf := first_x (n := 6) (by omega) (by omega)
  rw [fx6] at hf
  have hr := (((hf.app (line2 a)).app (line3 a b)).app (line4 a b no)).app (line5 a b no)
  have e0 : ((([wClass, [65], [66], [67], [68], [69], [70], [59]] ++ ((wSet :: ([[83], [61]] ++ nmx 6 a 6)) ++ [[59]])) ++ ((wSet :: (([[84], [61]] ++ nmx 6 b 6) ++ [[83]])) ++ [[59]])) ++ ((wKeep :: (([[91]] ++ xg no) ++ [[83], [84], [93], [47], [84]])) ++ [[59]])) ++ ((wMay :: [[83], [47], [46]]) ++ [[59]]) = sxt a b no := by
    unfold sxt x1 x2 x3 x4
    simp [List.append_assoc]
  rw [e0] at hr
  obtain ⟨f', e1, hf'⟩ := hr [z []] (ts.length + 1) (by
    show (sxt a b no).length + 1 + 1 ≤ _
    omega)
  obtain ⟨g, rfl⟩ : ∃ g, f' = g + 1 := ⟨f' - 1, by omega⟩
  have e2 := lines_er (ts.length + 1) ts st0
  rw [h3, e1] at e2
  rw [lines, if_neg (by exact Bool.false_ne_true), z_text, if_pos rfl] at e2
  cases h5 : lines (ts.length + 1) ts st0 with
  | error a => rw [h5] at e2; cases e2
  | ok s => rw [h5] at e2; injection e2 with e2; rw [e2]
theorem stext_len (a b : Nat) (no : Bool) : (stext a b no).length ≤ 100 := by
  have h1 := Hd.names_len 6 a 6
  have h2 := Hd.names_len 6 b 6
  have h3 : (sg no).length ≤ 1 := by cases no <;> decide
  unfold stext
  simp only [List.length_append]
  have q1 : c1.length = 26 := rfl
  have q2 : c2.length = 9 := rfl
  have q3 : c3.length = 10 := rfl
  have q4 : c4.length = 22 := rfl
  omega
end Rl
end Go.Proofs.Ytahoepmnekconab
