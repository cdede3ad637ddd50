/-
  Blocks of 256 numbers and a table in memory: their cells, that they may be keys of a map, that two are held against each other.
-/
import Derived.Test.YtlcpfheocenjfaaRef
import Derived.Maps.OwnSet
import Derived.Maps.OwnOps
import Derived.Deep.WholeRow
import Derived.DeepKeys4
import Derived.Great.Walk
namespace Go.Proofs.Ytlcpfheocenjfaa
open Go.RowKit Go.Maps

/-- 256 numbers as cells. -/
def bC (f : List Int) : Array Value := (f.map (Value.int .u8)).toArray
/-- 256 numbers of a byte's size. -/
def Byt (f : List Int) : Prop := f.length = 256 ∧ ∀ x ∈ f, 0 ≤ x ∧ x ≤ 255
/-- a table's cells: its rows and its blocks. -/
def tC (R : List Int) (v : Value) : Array Value := (R.map (Value.int .u16)).toArray.push v
theorem bC_size (f : List Int) : (bC f).size = f.length := by simp [bC]
theorem bC_one (f : List Int) : (bC f).all (·.oneCell') = true := by
  rw [Array.all_eq_true_iff_forall_mem]
  intro v hv
  unfold bC at hv
  simp only [List.mem_toArray, List.mem_map] at hv
  obtain ⟨a, _, rfl⟩ := hv
  rfl
theorem info58 : (Try.prog.info? 85).map (fun i => (i.zero, i.size, i.bytes)) = some (some (.agg (bC Pr.zeros)), 256, 256) := by kernel_rfl
theorem info58' : (Try.prog.info? 85).map (fun i => (i.zero, i.size)) = some (some (.agg (bC Pr.zeros)), 256) := by kernel_rfl
theorem zero58 (w : World) : (zeroValue 85).run Try.prog w = .ok (.agg (bC Pr.zeros)) w := (zero_of_info info58').1 w
theorem sz58 {f : List Int} (h : f.length = 256) : (Try.prog.info? 85).map (·.size) = some (bC f).size := by
  rw [bC_size, h]
  exact (zero_of_info info58').2
theorem built58 : Try.prog.built 85 [] = some (bC Pr.zeros) := by kernel_rfl
def noRows : List Int := List.replicate 4352 0
theorem built55 : Try.prog.built 82 [] = some (tC noRows (.slice none 0 0)) := by kernel_rfl
theorem zeros_byt : Byt Pr.zeros := by
  refine ⟨by simp [Pr.zeros], fun x hx => ?_⟩
  unfold Pr.zeros at hx
  simp only [List.mem_map] at hx
  obtain ⟨_, _, rfl⟩ := hx
  omega
theorem blk_byt {most a : Int} {L : List Rg} (h : Pr.okFrom most a L = true) (i : Nat) : Byt (Pr.blk L i) := by
  refine ⟨Pr.blk_len L i, fun x hx => ?_⟩
  unfold Pr.blk at hx
  simp only [List.mem_map] at hx
  obtain ⟨_, _, rfl⟩ := hx
  exact Pr.of_range h

theorem laidOut : laidOutB Try.prog = true := by kernel_rfl
theorem types79 : Try.prog.types.size = 121 := by kernel_rfl
theorem law58 : Keyed Try.prog 85 := Keyed.of_law (deep_law_laid laidOut (m := 2) (by decide) (by rw [types79]; decide) (by kernel_rfl) (by kernel_rfl))
theorem law9 : Keyed Try.prog 9 := string_keyed Try.underlying9
theorem mapM_some {α β : Type} {g : α → Option β} : ∀ (l : List α), (∀ i ∈ l, ∃ y, g i = some y) → ∃ ys, l.mapM g = some ys
  | [], _ => ⟨[], by simp⟩
  | a :: l, h => by
    obtain ⟨y, hy⟩ := h a (by simp)
    obtain ⟨ys, hys⟩ := mapM_some l (fun i hi => h i (by simp [hi]))
    exact ⟨y :: ys, by rw [List.mapM_cons, hy, hys]; rfl⟩
theorem cells58 : Try.prog.cellsOf 85 = 256 := by kernel_rfl
theorem cells5 : Try.prog.cellsOf 5 = 1 := by kernel_rfl
theorem key58 {f : List Int} (h : Byt f) : ∃ l, keyOf Try.prog 85 (.agg (bC f)) = some l := by
  have hk : Try.prog.keyType 85 = true := by kernel_rfl
  have hf : (Value.agg (bC f)).formed Try.prog 85 = true := by
    simp [Value.formed, Try.underlying85, cells58, bC_size, h.1]
  have ht : ∃ d, Try.prog.types.size + 1 = d + 2 := ⟨120, by rw [types79]⟩
  obtain ⟨d, hd⟩ := ht
  have hl : ∃ ls, Try.prog.keyLits (d + 2) 85 (Value.agg (bC f)).cells.toList = some ls := by
    unfold Program.keyLits
    simp only [Try.underlying85]
    have hlen : ((Value.agg (bC f)).cells.toList).length = Try.prog.cellsOf 85 := by
      rw [cells58]
      show (bC f).toList.length = 256
      rw [Array.length_toList, bC_size, h.1]
    rw [if_pos hlen]
    have : ∃ ys, (List.range 256).mapM (fun i => Try.prog.keyLits (d + 1) 5 (((Value.agg (bC f)).cells.toList.drop (i * Try.prog.cellsOf 5)).take (Try.prog.cellsOf 5))) = some ys := by
      apply mapM_some
      intro i hi
      have hi' : i < f.length := by rw [h.1]; exact List.mem_range.1 hi
      rw [cells5, Nat.mul_one]
      have e : ((Value.agg (bC f)).cells.toList.drop i).take 1 = [Value.int .u8 f[i]] := by
        show ((bC f).toList.drop i).take 1 = _
        have : (bC f).toList = f.map (Value.int .u8) := by simp [bC]
        rw [this, List.drop_eq_getElem_cons (by simpa using hi')]
        simp
      rw [e]
      unfold Program.keyLits
      simp only [Try.underlying5]
      have hw := h.2 f[i] (List.getElem_mem _)
      refine ⟨[.int .u8 f[i]], ?_⟩
      have hwf : (Lit.int .u8 f[i]).wf = true := by
        have e1 : IntKind.min .u8 = 0 := by decide
        have e2 : IntKind.max .u8 = 255 := by decide
        simp only [Lit.wf, e1, e2, hw.1, hw.2, decide_true, Bool.and_self]
      simp [hwf]
    obtain ⟨ys, hys⟩ := this
    rw [hys]
    exact ⟨_, rfl⟩
  obtain ⟨ls, hls⟩ := hl
  unfold keyOf
  simp only [Try.underlying85, hk, hf, Bool.and_self, if_true]
  rw [hd, hls]
  exact ⟨_, rfl⟩
/-- a block's key. -/
def kc (P : Program) (f : List Int) : Lit := (keyOf P 85 (.agg (bC f))).getD .nil
theorem kc_key {f : List Int} (h : Byt f) : keyOf Try.prog 85 (.agg (bC f)) = some (kc Try.prog f) := by
  obtain ⟨l, hl⟩ := key58 h
  unfold kc
  rw [hl]
  rfl
theorem bC_inj {f g : List Int} (h : bC f = bC g) : f = g := by
  have h' := congrArg Array.toList h
  unfold bC at h'
  simp only at h'
  exact (List.map_inj_right (fun a b e => by cases e; rfl)).1 h'
theorem kc_inj {f g : List Int} (hf : Byt f) (hg : Byt g) (h : kc Try.prog f = kc Try.prog g) : f = g := by
  have e := law58.inj (kc_key hf) (by rw [h]; exact kc_key hg)
  exact bC_inj (by injection e)
theorem eq58 {f g : List Int} (hf : Byt f) (hg : Byt g) (w : World) : (Op.equalIn 10000 85 (.agg (bC f)) (.agg (bC g))).run Try.prog w = .ok (decide (f = g)) w := by
  obtain ⟨r, hr, hiff⟩ := run_equal_deep w (m := 2) (k := 85) (by decide) (by kernel_rfl) (by kernel_rfl) (kc_key hf) (kc_key hg)
  have : r = decide (f = g) := by
    by_cases h : f = g
    · subst h; simp [hiff.2 rfl]
    · rw [decide_eq_false h]
      cases r with
      | false => rfl
      | true => exact absurd (kc_inj hf hg (hiff.1 rfl)) h
  rw [← this]
  exact hr
end Go.Proofs.Ytlcpfheocenjfaa
