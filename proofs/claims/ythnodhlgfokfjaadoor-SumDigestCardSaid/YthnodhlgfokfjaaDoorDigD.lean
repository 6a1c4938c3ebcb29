/-
  The last blocks of a message: 'pad' of package sum.
-/
import Derived.Test.YthnodhlgfokfjaaDoorDigB
import Derived.Laws.CopyOwn
import Derived.Deep.OwnRows
namespace Go.Proofs.YthnodhlgfokfjaaDoor
open Go.ChangeShapes Go.WideShapes Go.ChangeAt Go.RowKit
set_option linter.unusedVariables false

def zV (_ : Nat) : Value := .int .u8 0
theorem info5 : (Tryd.prog.info? 5).map (fun i => (i.zero, i.size, i.bytes)) = some (some (.int .u8 0), 1, 1) := by kernel_rfl

theorem make_row (n : Nat) (hn : n ≤ 1000000) (w : World) : (Instr.makeSlice 22 (.int .i64 (n : Int)) (.int .i64 (n : Int))).run Tryd.prog w = .ok (.slice (some ⟨w.heap.size, 0, none⟩) n n) (w.alloc (.cells (rowArr n zV) 5)) := by
  have h := run_make_row' (P := Tryd.prog) 22 5 (.int .u8 0) 1 Tryd.underlying22 info5 rfl .i64 .i64 n (by omega) (by omega) w
  rw [h]
  congr 3
  apply Array.ext
  · simp [madeCells, rowArr]
  · intro i h1 h2
    simp [madeCells, rowArr, zV, Nat.mod_one]

/-- The last bytes, a bit of 1, noughts. -/
def tl0 (l : List Nat) (i : Nat) : Nat := if i < l.length then l.getD i 0 else if i = l.length then 128 else 0
/-- .. and, from the end on, j bytes of the length in bits. -/
def tlN (l : List Nat) (n sz j i : Nat) : Nat := if sz - j ≤ i then n * 8 / 2 ^ (8 * (sz - 1 - i)) % 256 else tl0 l i
def tlV (l : List Nat) (n sz j i : Nat) : Value := .int .u8 ((tlN l n sz j i : Nat) : Int)

theorem tl_set {w : World} {B : Nat} {l : List Nat} {n sz j : Nat} (h : Row w B 5 sz sz (tlV l n sz j)) (hj : j < sz) {v : Value} (hv : v = .int .u8 ((n * 8 / 2 ^ (8 * j) % 256 : Nat) : Int)) :
    Row (w.setCell ⟨B, sz - 1 - j, none⟩ v) B 5 sz sz (tlV l n sz (j + 1)) :=
  (h.upd (sz - 1 - j) (by omega) v).mono (Nat.le_refl _) fun i hi => by
    by_cases e : i = sz - 1 - j
    · simp only [e, if_true, hv]
      unfold tlV tlN
      rw [if_pos (by omega), show sz - 1 - (sz - 1 - j) = j by omega]
    · simp only [e, if_false]
      unfold tlV tlN
      by_cases h2 : sz - j ≤ i
      · rw [if_pos h2, if_pos (by omega)]
      · rw [if_neg h2, if_neg (by omega)]

theorem tl_start {w : World} {B sz n : Nat} {l : List Nat} (hl : l.length < sz) (h : w.heap[B]? = some (.cells (splice (rowArr sz zV).toList 0 (l.map fun c : Nat => Value.int .u8 (c : Int))).toArray 5 (0, 0))) :
    Row (w.setCell ⟨B, l.length, none⟩ (.int .u8 128)) B 5 sz sz (tlV l n sz 0) := by
  have hr : Row w B 5 sz sz (fun i => if i < l.length then .int .u8 ((l.getD i 0 : Nat) : Int) else .int .u8 0) := by
    refine ⟨_, h, ?_, fun i hi => ?_⟩
    · simp [splice, rowArr]; omega
    · simp only [splice, List.take_zero, List.nil_append, Nat.zero_add, List.length_map]
      by_cases e : i < l.length
      · rw [if_pos e]
        simp [List.getElem?_append, e, List.getD]
      · rw [if_neg e]
        simp [List.getElem?_append, e, rowArr, zV, show l.length + (i - l.length) = i by omega, hi]
  refine (hr.upd l.length hl _).mono (Nat.le_refl _) fun i hi => ?_
  have e0 : ¬ (sz - 0 ≤ i) := by omega
  unfold tlV tlN tl0
  simp only [e0, if_false]
  by_cases e : i = l.length
  · simp only [e, if_true, Nat.lt_irrefl, if_false]; rfl
  · simp only [e, if_false]
    by_cases e2 : i < l.length
    · simp only [e2, if_true]
    · simp only [e2, if_false]; rfl

theorem tl_raw {w : World} {B sz : Nat} {l : List Nat} (hl : l.length < sz) (h : w.heap[B]? = some (.cells (splice (rowArr sz zV).toList 0 (l.map fun c : Nat => Value.int .u8 (c : Int))).toArray 5 (0, 0))) :
    (∃ v, w.cell? ⟨B, l.length, none⟩ = some v) ∧ w.frozen? ⟨B, l.length, none⟩ = false :=
  have hr : Row w B 5 sz 0 zV := ⟨_, h, by simp [splice, rowArr]; omega, fun i hi => by omega⟩
  ⟨hr.has _ hl, hr.loose _⟩

structure Pad (W wr : World) (l : List Nat) (n sz j : Nat) : Prop where
  below : Below W.heap.size W wr
  row : Row wr W.heap.size 5 sz sz (tlV l n sz j)


set_option maxRecDepth 100000 in
set_option maxHeartbeats 1000000 in
theorem pad64 (a : Option Addr) (cap : Nat) (l : List Nat) (n : Nat) (w : World) (hl : l.length + 9 ≤ 64) (hn : n ≤ 1000000000) (hb : IsByte l) (hc : BytesAt w a l) :
    Calls Tryd.prog 15 #[.slice a l.length cap, .int .i64 (n : Int)] w fun e w' => e = .returned (.slice (some ⟨w.heap.size, 0, none⟩) 64 64) ∧ Pad w w' l n 64 8 := by
  have HB := Lib.hid hb
  have HC := Lib.hid hc
  clear hb hc
  have hmk : ∀ w : World, (Instr.makeSlice 22 (.int .i64 64) (.int .i64 64)).run Tryd.prog w = .ok (.slice (some ⟨w.heap.size, 0, none⟩) 64 64) (w.alloc (.cells (rowArr 64 zV) 5)) := fun w => make_row 64 (by omega) w
  have hdec : decide ((64 : Int) < (l.length : Int) + 1 + 8) = false := by simp; omega
  have hh := heap_alloc_last w (.cells (rowArr 64 zV) 5)
  have hbl : Below w.heap.size w (w.alloc (.cells (rowArr 64 zV) 5)) := (Below.refl _ _).alloc (Nat.le_refl _) _
  have HC1 : Hid (BytesAt (w.alloc (.cells (rowArr 64 zV) 5)) a l) := HC.out.below (Nat.le_refl _) hbl
  have HH := Lib.hid hh
  have HBL := Lib.hid hbl
  clear hh hbl
  have hg : (w.alloc (.cells (rowArr 64 zV) 5)).heap[w.heap.size]? = some (.cells (rowArr 64 zV).toList.toArray 5 (0, 0)) := by simpa using HH.out
  have hcl : (l.map fun c : Nat => Value.int .u8 (c : Int)).length = Nat.min l.length 64 := by
    rw [List.length_map]; exact (Nat.min_eq_left (by omega)).symm
  have hpos : 0 < (l.map fun c : Nat => Value.int .u8 (c : Int)).length → (some ⟨w.heap.size, 0, none⟩ : Option Addr) = some ⟨w.heap.size, 0, none⟩ ∧ ∃ ad, a = some ad ∧ ∀ j v, (l.map fun c : Nat => Value.int .u8 (c : Int))[j]? = some v → (w.alloc (.cells (rowArr 64 zV) 5)).cell? (ad.add j) = some v := by
    intro h0
    refine ⟨rfl, ?_⟩
    rcases HC1.out with rfl | ⟨b, off, rfl, hbi⟩
    · simp at h0
    · refine ⟨_, rfl, fun j v hv => ?_⟩
      have hj : j < l.length := by
        rcases Nat.lt_or_ge j l.length with h | h
        · exact h
        · simp [List.getElem?_eq_none h] at hv
      have e : v = .int .u8 ((l[j] : Nat) : Int) := by simpa [hj] using hv.symm
      rw [e]
      have := hbi j hj
      by_cases j0 : j = 0
      · subst j0; simpa [Addr.add] using this
      · simpa [Addr.add, j0] using this
  have hfit : 0 + (l.map fun c : Nat => Value.int .u8 (c : Int)).length ≤ (rowArr 64 zV).toList.length := by simp [rowArr]; omega
  have h1c : ∀ v ∈ (l.map fun c : Nat => Value.int .u8 (c : Int)), v.oneCell' = true := by
    intro v hv
    obtain ⟨c, _, rfl⟩ := List.mem_map.1 hv
    rfl
  have HG := Lib.hid hg
  have HCL := Lib.hid hcl
  have HPOS := Lib.hid hpos
  have HFIT := Lib.hid hfit
  have H1C := Lib.hid h1c
  clear hg hcl hpos hfit h1c HH HC1
  go_enter Tryd.func15, Tryd.ntmps15
  go_wp2_with ((with_reducible refine wpList_copy_splice rfl (.tmp 16) (.tmp 17) 22 22 rfl 5 Tryd.underlying22 (by kernel_rfl) (some ⟨w.heap.size, 0, none⟩) a 64 64 l.length cap rfl rfl w.heap.size 0 (rowArr 64 zV).toList 5 HG.out (l.map fun c : Nat => Value.int .u8 (c : Int)) HCL.out HPOS.out HFIT.out H1C.out w.heap.size w HBL.out (Nat.le_refl _) ?_); intro w2 HW2 b2; obtain ⟨⟨v0, hc0⟩, hf0⟩ := tl_raw (l := l) (sz := 64) (by omega) HW2.out; have HP : Hid (Pad w (w2.setCell ⟨w.heap.size, l.length, none⟩ (.int .u8 128)) l n 64 0) := ⟨b2.setCell (Nat.le_refl _) _, tl_start (l := l) (sz := 64) (n := n) (by omega) HW2.out⟩; have HB2 := Lib.hid b2; clear b2)
  clear HG HCL HPOS HFIT H1C HBL
  go_loopw [26] (fun i wr => ∃ j : Nat, j ≤ 8 ∧ i = .int .i64 j ∧ Hid (Pad w wr l n 64 j)) (fun i _ => 8 - (intOf i).toNat)
  case atStart => exact ⟨0, by omega, rfl, HP⟩
  case round =>
    obtain ⟨j, hj, rfl, HJ⟩ := hrel
    by_cases hlt : j < 8
    · have hlo := HJ.out.row.loose (64 - 1 - j)
      obtain ⟨vk, hck⟩ := HJ.out.row.has (64 - 1 - j) (by omega)
      have HS : Hid (Pad w (wr.setCell ⟨w.heap.size, 63 - j, none⟩ (.int .u8 ((n : Int) * 8 / 2 ^ (8 * j) % 256))) l n 64 (j + 1)) := ⟨HJ.out.below.setCell (Nat.le_refl _) _, tl_set HJ.out.row (by omega) (by simp)⟩
      go_wp2_with fail
      go_roundw
      case rel => exact ⟨j + 1, by omega, by go_num, HS⟩
      case measure => simp [intOf]; omega
    · have hj8 : j = 8 := by omega
      subst hj8
      go_wp2_with fail
      go_ret
      exact ⟨rfl, HJ.out⟩

set_option maxRecDepth 100000 in
set_option maxHeartbeats 1000000 in
theorem pad128 (a : Option Addr) (cap : Nat) (l : List Nat) (n : Nat) (w : World) (hl0 : 64 < l.length + 9) (hl : l.length < 64) (hn : n ≤ 1000000000) (hb : IsByte l) (hc : BytesAt w a l) :
    Calls Tryd.prog 15 #[.slice a l.length cap, .int .i64 (n : Int)] w fun e w' => e = .returned (.slice (some ⟨w.heap.size, 0, none⟩) 128 128) ∧ Pad w w' l n 128 8 := by
  have HB := Lib.hid hb
  have HC := Lib.hid hc
  clear hb hc
  have hmk : ∀ w : World, (Instr.makeSlice 22 (.int .i64 128) (.int .i64 128)).run Tryd.prog w = .ok (.slice (some ⟨w.heap.size, 0, none⟩) 128 128) (w.alloc (.cells (rowArr 128 zV) 5)) := fun w => make_row 128 (by omega) w
  have hdec : decide ((64 : Int) < (l.length : Int) + 1 + 8) = true := by simp; omega
  have hh := heap_alloc_last w (.cells (rowArr 128 zV) 5)
  have hbl : Below w.heap.size w (w.alloc (.cells (rowArr 128 zV) 5)) := (Below.refl _ _).alloc (Nat.le_refl _) _
  have HC1 : Hid (BytesAt (w.alloc (.cells (rowArr 128 zV) 5)) a l) := HC.out.below (Nat.le_refl _) hbl
  have HH := Lib.hid hh
  have HBL := Lib.hid hbl
  clear hh hbl
  have hg : (w.alloc (.cells (rowArr 128 zV) 5)).heap[w.heap.size]? = some (.cells (rowArr 128 zV).toList.toArray 5 (0, 0)) := by simpa using HH.out
  have hcl : (l.map fun c : Nat => Value.int .u8 (c : Int)).length = Nat.min l.length 128 := by
    rw [List.length_map]; exact (Nat.min_eq_left (by omega)).symm
  have hpos : 0 < (l.map fun c : Nat => Value.int .u8 (c : Int)).length → (some ⟨w.heap.size, 0, none⟩ : Option Addr) = some ⟨w.heap.size, 0, none⟩ ∧ ∃ ad, a = some ad ∧ ∀ j v, (l.map fun c : Nat => Value.int .u8 (c : Int))[j]? = some v → (w.alloc (.cells (rowArr 128 zV) 5)).cell? (ad.add j) = some v := by
    intro h0
    refine ⟨rfl, ?_⟩
    rcases HC1.out with rfl | ⟨b, off, rfl, hbi⟩
    · simp at h0
    · refine ⟨_, rfl, fun j v hv => ?_⟩
      have hj : j < l.length := by
        rcases Nat.lt_or_ge j l.length with h | h
        · exact h
        · simp [List.getElem?_eq_none h] at hv
      have e : v = .int .u8 ((l[j] : Nat) : Int) := by simpa [hj] using hv.symm
      rw [e]
      have := hbi j hj
      by_cases j0 : j = 0
      · subst j0; simpa [Addr.add] using this
      · simpa [Addr.add, j0] using this
  have hfit : 0 + (l.map fun c : Nat => Value.int .u8 (c : Int)).length ≤ (rowArr 128 zV).toList.length := by simp [rowArr]; omega
  have h1c : ∀ v ∈ (l.map fun c : Nat => Value.int .u8 (c : Int)), v.oneCell' = true := by
    intro v hv
    obtain ⟨c, _, rfl⟩ := List.mem_map.1 hv
    rfl
  have HG := Lib.hid hg
  have HCL := Lib.hid hcl
  have HPOS := Lib.hid hpos
  have HFIT := Lib.hid hfit
  have H1C := Lib.hid h1c
  clear hg hcl hpos hfit h1c HH HC1
  go_enter Tryd.func15, Tryd.ntmps15
  go_wp2_with ((with_reducible refine wpList_copy_splice rfl (.tmp 16) (.tmp 17) 22 22 rfl 5 Tryd.underlying22 (by kernel_rfl) (some ⟨w.heap.size, 0, none⟩) a 128 128 l.length cap rfl rfl w.heap.size 0 (rowArr 128 zV).toList 5 HG.out (l.map fun c : Nat => Value.int .u8 (c : Int)) HCL.out HPOS.out HFIT.out H1C.out w.heap.size w HBL.out (Nat.le_refl _) ?_); intro w2 HW2 b2; obtain ⟨⟨v0, hc0⟩, hf0⟩ := tl_raw (l := l) (sz := 128) (by omega) HW2.out; have HP : Hid (Pad w (w2.setCell ⟨w.heap.size, l.length, none⟩ (.int .u8 128)) l n 128 0) := ⟨b2.setCell (Nat.le_refl _) _, tl_start (l := l) (sz := 128) (n := n) (by omega) HW2.out⟩; have HB2 := Lib.hid b2; clear b2)
  clear HG HCL HPOS HFIT H1C HBL
  go_loopw [26] (fun i wr => ∃ j : Nat, j ≤ 8 ∧ i = .int .i64 j ∧ Hid (Pad w wr l n 128 j)) (fun i _ => 8 - (intOf i).toNat)
  case atStart => exact ⟨0, by omega, rfl, HP⟩
  case round =>
    obtain ⟨j, hj, rfl, HJ⟩ := hrel
    by_cases hlt : j < 8
    · have hlo := HJ.out.row.loose (128 - 1 - j)
      obtain ⟨vk, hck⟩ := HJ.out.row.has (128 - 1 - j) (by omega)
      have HS : Hid (Pad w (wr.setCell ⟨w.heap.size, 127 - j, none⟩ (.int .u8 ((n : Int) * 8 / 2 ^ (8 * j) % 256))) l n 128 (j + 1)) := ⟨HJ.out.below.setCell (Nat.le_refl _) _, tl_set HJ.out.row (by omega) (by simp)⟩
      go_wp2_with fail
      go_roundw
      case rel => exact ⟨j + 1, by omega, by go_num, HS⟩
      case measure => simp [intOf]; omega
    · have hj8 : j = 8 := by omega
      subst hj8
      go_wp2_with fail
      go_ret
      exact ⟨rfl, HJ.out⟩

end Go.Proofs.YthnodhlgfokfjaaDoor
