/-
  The last blocks of a message: 'pad' of package sum.
  'Digest' of package sum.
  'Digest' of package sum, of no bytes.
-/
import Derived.Test.YtfgaohilpbocbaaGreatDoorMl9
import Derived.Laws.CopyOwn
import Derived.Deep.OwnRows
section
namespace Go.Proofs.YtfgaohilpbocbaaGreatDoor.Sha
open Go.ChangeShapes Go.WideShapes Go.ChangeAt Go.RowKit
set_option linter.unusedVariables false

def zV (_ : Nat) : Value := .int .u8 0
theorem info5 : (Tryz.prog.info? 5).map (fun i => (i.zero, i.size, i.bytes)) = some (some (.int .u8 0), 1, 1) := by kernel_rfl

set_option maxRecDepth 100000 in
theorem make_row (n : Nat) (hn : n ≤ 1000000) (w : World) : (Instr.makeSlice 53 (.int .i64 (n : Int)) (.int .i64 (n : Int))).run Tryz.prog w = .ok (.slice (some ⟨w.heap.size, 0, none⟩) n n) (w.alloc (.cells (rowArr n zV) 5)) := by
  have h := run_make_row' (P := Tryz.prog) 53 5 (.int .u8 0) 1 Tryz.underlying53 info5 rfl .i64 .i64 n (by omega) (by omega) w
  rw [h]
  congr 3
  apply Array.ext
  · simp [madeCells, rowArr]
  · intro i h1 h2
    simp [madeCells, rowArr, zV, Nat.mod_one]

/-- The last bytes, a bit of 1, noughts. -/
def tl0 (l : List Nat) (i : Nat) : Nat := if i < l.length then l.getD i 0 else if i = l.length then 128 else 0
/-- .. and, from the end on, j bytes of the length in bits. -/
def tlN (l : List Nat) (n sz j i : Nat) : Nat := if sz - j ≤ i then n * 8 / 2 ^ (8 * (sz - 1 - i)) % 256 else tl0 l i
def tlV (l : List Nat) (n sz j i : Nat) : Value := .int .u8 ((tlN l n sz j i : Nat) : Int)

theorem tl_set {w : World} {B : Nat} {l : List Nat} {n sz j : Nat} (h : Row w B 5 sz sz (tlV l n sz j)) (hj : j < sz) {v : Value} (hv : v = .int .u8 ((n * 8 / 2 ^ (8 * j) % 256 : Nat) : Int)) :
    Row (w.setCell ⟨B, sz - 1 - j, none⟩ v) B 5 sz sz (tlV l n sz (j + 1)) :=
  (h.upd (sz - 1 - j) (by omega) v).mono (Nat.le_refl _) fun i hi => by
    by_cases e : i = sz - 1 - j
    · simp only [e, if_true, hv]
      unfold tlV tlN
      rw [if_pos (by omega), show sz - 1 - (sz - 1 - j) = j by omega]
    · simp only [e, if_false]
      unfold tlV tlN
      by_cases h2 : sz - j ≤ i
      · rw [if_pos h2, if_pos (by omega)]
      · rw [if_neg h2, if_neg (by omega)]

theorem tl_start {w : World} {B sz n : Nat} {l : List Nat} (hl : l.length < sz) (h : w.heap[B]? = some (.cells (splice (rowArr sz zV).toList 0 (l.map fun c : Nat => Value.int .u8 (c : Int))).toArray 5 (0, 0))) :
    Row (w.setCell ⟨B, l.length, none⟩ (.int .u8 128)) B 5 sz sz (tlV l n sz 0) := by
  have hr : Row w B 5 sz sz (fun i => if i < l.length then .int .u8 ((l.getD i 0 : Nat) : Int) else .int .u8 0) := by
    refine ⟨_, h, ?_, fun i hi => ?_⟩
    · simp [splice, rowArr]; omega
    · simp only [splice, List.take_zero, List.nil_append, Nat.zero_add, List.length_map]
      by_cases e : i < l.length
      · rw [if_pos e]
        simp [List.getElem?_append, e, List.getD]
      · rw [if_neg e]
        simp [List.getElem?_append, e, rowArr, zV, show l.length + (i - l.length) = i by omega, hi]
  refine (hr.upd l.length hl _).mono (Nat.le_refl _) fun i hi => ?_
  have e0 : ¬ (sz - 0 ≤ i) := by omega
  unfold tlV tlN tl0
  simp only [e0, if_false]
  by_cases e : i = l.length
  · simp only [e, if_true, Nat.lt_irrefl, if_false]; rfl
  · simp only [e, if_false]
    by_cases e2 : i < l.length
    · simp only [e2, if_true]
    · simp only [e2, if_false]; rfl

theorem tl_raw {w : World} {B sz : Nat} {l : List Nat} (hl : l.length < sz) (h : w.heap[B]? = some (.cells (splice (rowArr sz zV).toList 0 (l.map fun c : Nat => Value.int .u8 (c : Int))).toArray 5 (0, 0))) :
    (∃ v, w.cell? ⟨B, l.length, none⟩ = some v) ∧ w.frozen? ⟨B, l.length, none⟩ = false :=
  have hr : Row w B 5 sz 0 zV := ⟨_, h, by simp [splice, rowArr]; omega, fun i hi => by omega⟩
  ⟨hr.has _ hl, hr.loose _⟩

structure Pad (W wr : World) (l : List Nat) (n sz j : Nat) : Prop where
  below : Below W.heap.size W wr
  row : Row wr W.heap.size 5 sz sz (tlV l n sz j)


set_option maxRecDepth 100000 in
set_option maxHeartbeats 1000000 in
theorem pad64 (a : Option Addr) (cap : Nat) (l : List Nat) (n : Nat) (w : World) (hl : l.length + 9 ≤ 64) (hn : n ≤ 1000000000) (hb : IsByte l) (hc : BytesAt w a l) :
    Calls Tryz.prog 101 #[.slice a l.length cap, .int .i64 (n : Int)] w fun e w' => e = .returned (.slice (some ⟨w.heap.size, 0, none⟩) 64 64) ∧ Pad w w' l n 64 8 := by
  have HB := Lib.hid hb
  have HC := Lib.hid hc
  clear hb hc
  have hmk : ∀ w : World, (Instr.makeSlice 53 (.int .i64 64) (.int .i64 64)).run Tryz.prog w = .ok (.slice (some ⟨w.heap.size, 0, none⟩) 64 64) (w.alloc (.cells (rowArr 64 zV) 5)) := fun w => make_row 64 (by omega) w
  have hdec : decide ((64 : Int) < (l.length : Int) + 1 + 8) = false := by simp; omega
  have hh := heap_alloc_last w (.cells (rowArr 64 zV) 5)
  have hbl : Below w.heap.size w (w.alloc (.cells (rowArr 64 zV) 5)) := (Below.refl _ _).alloc (Nat.le_refl _) _
  have HC1 : Hid (BytesAt (w.alloc (.cells (rowArr 64 zV) 5)) a l) := HC.out.below (Nat.le_refl _) hbl
  have HH := Lib.hid hh
  have HBL := Lib.hid hbl
  clear hh hbl
  have hg : (w.alloc (.cells (rowArr 64 zV) 5)).heap[w.heap.size]? = some (.cells (rowArr 64 zV).toList.toArray 5 (0, 0)) := by simpa using HH.out
  have hcl : (l.map fun c : Nat => Value.int .u8 (c : Int)).length = Nat.min l.length 64 := by
    rw [List.length_map]; exact (Nat.min_eq_left (by omega)).symm
  have hpos : 0 < (l.map fun c : Nat => Value.int .u8 (c : Int)).length → (some ⟨w.heap.size, 0, none⟩ : Option Addr) = some ⟨w.heap.size, 0, none⟩ ∧ ∃ ad, a = some ad ∧ ∀ j v, (l.map fun c : Nat => Value.int .u8 (c : Int))[j]? = some v → (w.alloc (.cells (rowArr 64 zV) 5)).cell? (ad.add j) = some v := by
    intro h0
    refine ⟨rfl, ?_⟩
    rcases HC1.out with rfl | ⟨b, off, rfl, hbi⟩
    · simp at h0
    · refine ⟨_, rfl, fun j v hv => ?_⟩
      have hj : j < l.length := by
        rcases Nat.lt_or_ge j l.length with h | h
        · exact h
        · simp [List.getElem?_eq_none h] at hv
      have e : v = .int .u8 ((l[j] : Nat) : Int) := by simpa [hj] using hv.symm
      rw [e]
      have := hbi j hj
      by_cases j0 : j = 0
      · subst j0; simpa [Addr.add] using this
      · simpa [Addr.add, j0] using this
  have hfit : 0 + (l.map fun c : Nat => Value.int .u8 (c : Int)).length ≤ (rowArr 64 zV).toList.length := by simp [rowArr]; omega
  have h1c : ∀ v ∈ (l.map fun c : Nat => Value.int .u8 (c : Int)), v.oneCell' = true := by
    intro v hv
    obtain ⟨c, _, rfl⟩ := List.mem_map.1 hv
    rfl
  have HG := Lib.hid hg
  have HCL := Lib.hid hcl
  have HPOS := Lib.hid hpos
  have HFIT := Lib.hid hfit
  have H1C := Lib.hid h1c
  clear hg hcl hpos hfit h1c HH HC1
  go_enter Tryz.func101, Tryz.ntmps101
  go_wp2_with ((with_reducible refine wpList_copy_splice rfl (.tmp 16) (.tmp 17) 53 53 rfl 5 Tryz.underlying53 (by kernel_rfl) (some ⟨w.heap.size, 0, none⟩) a 64 64 l.length cap rfl rfl w.heap.size 0 (rowArr 64 zV).toList 5 HG.out (l.map fun c : Nat => Value.int .u8 (c : Int)) HCL.out HPOS.out HFIT.out H1C.out w.heap.size w HBL.out (Nat.le_refl _) ?_); intro w2 HW2 b2; obtain ⟨⟨v0, hc0⟩, hf0⟩ := tl_raw (l := l) (sz := 64) (by omega) HW2.out; have HP : Hid (Pad w (w2.setCell ⟨w.heap.size, l.length, none⟩ (.int .u8 128)) l n 64 0) := ⟨b2.setCell (Nat.le_refl _) _, tl_start (l := l) (sz := 64) (n := n) (by omega) HW2.out⟩; have HB2 := Lib.hid b2; clear b2)
  clear HG HCL HPOS HFIT H1C HBL
  go_loopw [26] (fun i wr => ∃ j : Nat, j ≤ 8 ∧ i = .int .i64 j ∧ Hid (Pad w wr l n 64 j)) (fun i _ => 8 - (intOf i).toNat)
  case atStart => exact ⟨0, by omega, rfl, HP⟩
  case round =>
    obtain ⟨j, hj, rfl, HJ⟩ := hrel
    by_cases hlt : j < 8
    · have hlo := HJ.out.row.loose (64 - 1 - j)
      obtain ⟨vk, hck⟩ := HJ.out.row.has (64 - 1 - j) (by omega)
      have HS : Hid (Pad w (wr.setCell ⟨w.heap.size, 63 - j, none⟩ (.int .u8 ((n : Int) * 8 / 2 ^ (8 * j) % 256))) l n 64 (j + 1)) := ⟨HJ.out.below.setCell (Nat.le_refl _) _, tl_set HJ.out.row (by omega) (by simp)⟩
      go_wp2_with fail
      go_roundw
      case rel => exact ⟨j + 1, by omega, by go_num, HS⟩
      case measure => simp [intOf]; omega
    · have hj8 : j = 8 := by omega
      subst hj8
      go_wp2_with fail
      go_ret
      exact ⟨rfl, HJ.out⟩

set_option maxRecDepth 100000 in
set_option maxHeartbeats 1000000 in
theorem pad128 (a : Option Addr) (cap : Nat) (l : List Nat) (n : Nat) (w : World) (hl0 : 64 < l.length + 9) (hl : l.length < 64) (hn : n ≤ 1000000000) (hb : IsByte l) (hc : BytesAt w a l) :
    Calls Tryz.prog 101 #[.slice a l.length cap, .int .i64 (n : Int)] w fun e w' => e = .returned (.slice (some ⟨w.heap.size, 0, none⟩) 128 128) ∧ Pad w w' l n 128 8 := by
  have HB := Lib.hid hb
  have HC := Lib.hid hc
  clear hb hc
  have hmk : ∀ w : World, (Instr.makeSlice 53 (.int .i64 128) (.int .i64 128)).run Tryz.prog w = .ok (.slice (some ⟨w.heap.size, 0, none⟩) 128 128) (w.alloc (.cells (rowArr 128 zV) 5)) := fun w => make_row 128 (by omega) w
  have hdec : decide ((64 : Int) < (l.length : Int) + 1 + 8) = true := by simp; omega
  have hh := heap_alloc_last w (.cells (rowArr 128 zV) 5)
  have hbl : Below w.heap.size w (w.alloc (.cells (rowArr 128 zV) 5)) := (Below.refl _ _).alloc (Nat.le_refl _) _
  have HC1 : Hid (BytesAt (w.alloc (.cells (rowArr 128 zV) 5)) a l) := HC.out.below (Nat.le_refl _) hbl
  have HH := Lib.hid hh
  have HBL := Lib.hid hbl
  clear hh hbl
  have hg : (w.alloc (.cells (rowArr 128 zV) 5)).heap[w.heap.size]? = some (.cells (rowArr 128 zV).toList.toArray 5 (0, 0)) := by simpa using HH.out
  have hcl : (l.map fun c : Nat => Value.int .u8 (c : Int)).length = Nat.min l.length 128 := by
    rw [List.length_map]; exact (Nat.min_eq_left (by omega)).symm
  have hpos : 0 < (l.map fun c : Nat => Value.int .u8 (c : Int)).length → (some ⟨w.heap.size, 0, none⟩ : Option Addr) = some ⟨w.heap.size, 0, none⟩ ∧ ∃ ad, a = some ad ∧ ∀ j v, (l.map fun c : Nat => Value.int .u8 (c : Int))[j]? = some v → (w.alloc (.cells (rowArr 128 zV) 5)).cell? (ad.add j) = some v := by
    intro h0
    refine ⟨rfl, ?_⟩
    rcases HC1.out with rfl | ⟨b, off, rfl, hbi⟩
    · simp at h0
    · refine ⟨_, rfl, fun j v hv => ?_⟩
      have hj : j < l.length := by
        rcases Nat.lt_or_ge j l.length with h | h
        · exact h
        · simp [List.getElem?_eq_none h] at hv
      have e : v = .int .u8 ((l[j] : Nat) : Int) := by simpa [hj] using hv.symm
      rw [e]
      have := hbi j hj
      by_cases j0 : j = 0
      · subst j0; simpa [Addr.add] using this
      · simpa [Addr.add, j0] using this
  have hfit : 0 + (l.map fun c : Nat => Value.int .u8 (c : Int)).length ≤ (rowArr 128 zV).toList.length := by simp [rowArr]; omega
  have h1c : ∀ v ∈ (l.map fun c : Nat => Value.int .u8 (c : Int)), v.oneCell' = true := by
    intro v hv
    obtain ⟨c, _, rfl⟩ := List.mem_map.1 hv
    rfl
  have HG := Lib.hid hg
  have HCL := Lib.hid hcl
  have HPOS := Lib.hid hpos
  have HFIT := Lib.hid hfit
  have H1C := Lib.hid h1c
  clear hg hcl hpos hfit h1c HH HC1
  go_enter Tryz.func101, Tryz.ntmps101
  go_wp2_with ((with_reducible refine wpList_copy_splice rfl (.tmp 16) (.tmp 17) 53 53 rfl 5 Tryz.underlying53 (by kernel_rfl) (some ⟨w.heap.size, 0, none⟩) a 128 128 l.length cap rfl rfl w.heap.size 0 (rowArr 128 zV).toList 5 HG.out (l.map fun c : Nat => Value.int .u8 (c : Int)) HCL.out HPOS.out HFIT.out H1C.out w.heap.size w HBL.out (Nat.le_refl _) ?_); intro w2 HW2 b2; obtain ⟨⟨v0, hc0⟩, hf0⟩ := tl_raw (l := l) (sz := 128) (by omega) HW2.out; have HP : Hid (Pad w (w2.setCell ⟨w.heap.size, l.length, none⟩ (.int .u8 128)) l n 128 0) := ⟨b2.setCell (Nat.le_refl _) _, tl_start (l := l) (sz := 128) (n := n) (by omega) HW2.out⟩; have HB2 := Lib.hid b2; clear b2)
  clear HG HCL HPOS HFIT H1C HBL
  go_loopw [26] (fun i wr => ∃ j : Nat, j ≤ 8 ∧ i = .int .i64 j ∧ Hid (Pad w wr l n 128 j)) (fun i _ => 8 - (intOf i).toNat)
  case atStart => exact ⟨0, by omega, rfl, HP⟩
  case round =>
    obtain ⟨j, hj, rfl, HJ⟩ := hrel
    by_cases hlt : j < 8
    · have hlo := HJ.out.row.loose (128 - 1 - j)
      obtain ⟨vk, hck⟩ := HJ.out.row.has (128 - 1 - j) (by omega)
      have HS : Hid (Pad w (wr.setCell ⟨w.heap.size, 127 - j, none⟩ (.int .u8 ((n : Int) * 8 / 2 ^ (8 * j) % 256))) l n 128 (j + 1)) := ⟨HJ.out.below.setCell (Nat.le_refl _) _, tl_set HJ.out.row (by omega) (by simp)⟩
      go_wp2_with fail
      go_roundw
      case rel => exact ⟨j + 1, by omega, by go_num, HS⟩
      case measure => simp [intOf]; omega
    · have hj8 : j = 8 := by omega
      subst hj8
      go_wp2_with fail
      go_ret
      exact ⟨rfl, HJ.out⟩

end Go.Proofs.YtfgaohilpbocbaaGreatDoor.Sha
end

section
namespace Go.Proofs.YtfgaohilpbocbaaGreatDoor.Sha
open Go.ChangeShapes Go.WideShapes Go.ChangeAt Go.RowKit
set_option linter.unusedVariables false

/-- The first state, as it is laid. -/
def Starts (w : World) : Prop := ∃ t fr, w.heap[0]? = some (.cells (rowArr 8 (stV start8)) t fr)

theorem Starts.below {w w' : World} {B : Nat} (h : Starts w) (hB : 0 < B) (b : Below B w w') : Starts w' := by
  obtain ⟨t, fr, h⟩ := h
  exact ⟨t, fr, by rw [b.block _ hB]; exact h⟩

theorem mix_at (b off cap : Nat) (f : Nat → Nat) (x : S8) (hx : x.Ok) (w : World) (hb : BytesF f) (hc : BlockIn w b off f) (hK : Ks w) :
    Calls Tryz.prog 100 #[.agg #[.int .u32 (x.p : Int), .int .u32 (x.q : Int), .int .u32 (x.r : Int), .int .u32 (x.s : Int), .int .u32 (x.t : Int), .int .u32 (x.u : Int), .int .u32 (x.v : Int), .int .u32 (x.w : Int)], .slice (some ⟨b, off, none⟩) 64 cap] w
      fun e w' => e = .returned (.agg (rowArr 8 (stV (mixN x f)))) ∧ Below w.heap.size w w' := mix_any b off cap f x hx w hb hc hK

structure Dg (W wr : World) (x : S8) : Prop where
  below : Below W.heap.size W wr
  out : Row wr W.heap.size 50 32 0 zV
  row : Row wr (W.heap.size + 1) 196 8 8 (stV x)

theorem Dg.drew {W wr : World} {x : S8} (h : Dg W wr x) (q : Nat) : Dg W (wr.drewN q) x := ⟨below_drewN h.below q, h.out, h.row⟩

/-- A block is taken in: the call, and the state's row written. -/
theorem Dg.next {W wr w5 : World} {x y : S8} (h : Dg W wr x) (b : Below wr.heap.size wr w5) : Dg W (w5.setRow (W.heap.size + 1) (rowArr 8 (stV y))) y :=
  ⟨Go.Proofs.YtfgaohilpbocbaaGreatDoor.Sha.below_setRow (h.below.trans (b.mono h.below.size)) (by omega) _, (h.out.below b h.out.lt).setRow_other (by omega) _, (h.row.below b h.row.lt).whole_set⟩

theorem Dg.old {W wr w5 : World} {x : S8} (h : Dg W wr x) (b : Below wr.heap.size wr w5) : w5.heap[W.heap.size + 1]? = some (.cells (rowArr 8 (stV x)) 196 (0, 0)) := (h.row.below b h.row.lt).whole

theorem padN_head (l : List Nat) (i : Nat) (h : i < l.length) : (padN l).getD i 0 = l[i] := by
  unfold padN
  simp [List.getD, List.getElem?_append, h]

theorem block_of_bytes {w : World} {b off : Nat} {l : List Nat} (h : BytesIn w b off l) (t : Nat) (ht : t + 64 ≤ l.length) : BlockIn w b (off + t) (fun j => (padN l).getD (t + j) 0) := fun i hi => by
  show w.cell? ⟨b, off + t + i, none⟩ = some (.int .u8 (((padN l).getD (t + i) 0 : Nat) : Int))
  rw [padN_head l (t + i) (by omega), Nat.add_assoc]
  exact h (t + i) (by omega)

/-- The last blocks are the padded message's. -/
theorem tail_get (l : List Nat) (k sz i : Nat) (hk : l.length / 64 = k) (hsz : (padN l).length = 64 * k + sz) (hi : i < sz) :
    tlN (l.drop (64 * k)) l.length sz 8 i = (padN l).getD (64 * k + i) 0 := by
  have hlen := padN_length l
  have hdl : (l.drop (64 * k)).length = l.length - 64 * k := by simp
  have hg : gap l.length = sz - 9 - (l.length - 64 * k) ∧ 9 + (l.length - 64 * k) ≤ sz := by
    have : l.length - 64 * k < 64 := by omega
    omega
  unfold tlN tl0 padN
  rw [hdl]
  by_cases h1 : sz - 8 ≤ i
  · rw [if_pos h1]
    simp only [List.getD]
    rw [List.getElem?_append_right (by omega), show 64 * k + i - l.length = (64 * k + i - l.length - 1) + 1 by omega, List.getElem?_cons_succ, List.getElem?_append_right (by simp; omega)]
    simp only [List.length_replicate, be64]
    have e : 64 * k + i - l.length - 1 - gap l.length = i - (sz - 8) := by omega
    rw [e]
    have e2 : i - (sz - 8) < 8 := by omega
    simp [e2]
    congr 3
    omega
  · rw [if_neg h1]
    by_cases h2 : i < l.length - 64 * k
    · rw [if_pos h2]
      simp only [List.getD]
      rw [List.getElem?_append_left (by omega)]
      simp
    · rw [if_neg h2]
      by_cases h3 : i = l.length - 64 * k
      · rw [if_pos h3]
        simp only [List.getD]
        rw [List.getElem?_append_right (by omega), show 64 * k + i - l.length = 0 by omega]
        rfl
      · rw [if_neg h3]
        simp only [List.getD]
        rw [List.getElem?_append_right (by omega), show 64 * k + i - l.length = (64 * k + i - l.length - 1) + 1 by omega, List.getElem?_cons_succ, List.getElem?_append_left (by simp; omega)]
        simp [show 64 * k + i - l.length - 1 < gap l.length by omega]

theorem block_of_tail {w : World} {B sz k : Nat} {l : List Nat} (h : Row w B 5 sz sz (tlV (l.drop (64 * k)) l.length sz 8)) (hk : l.length / 64 = k) (hsz : (padN l).length = 64 * k + sz) (t : Nat) (ht : t + 64 ≤ sz) :
    BlockIn w B t (fun j => (padN l).getD (64 * k + t + j) 0) := fun i hi => by
  show w.cell? ⟨B, t + i, none⟩ = some (.int .u8 (((padN l).getD (64 * k + t + i) 0 : Nat) : Int))
  rw [h.cell (t + i) (by omega), Nat.add_assoc, ← tail_get l k sz (t + i) hk hsz (by omega)]
  rfl

set_option maxRecDepth 100000 in
set_option maxHeartbeats 1000000 in
theorem digest_core (b off cap : Nat) (l : List Nat) (x0 : S8) (HX0 : Hid (comp (padN l) ((padN l).length / 64) = x0)) (w : World) (hl : l.length ≤ 1000000) (hlc : l.length ≤ cap) (hcm : cap ≤ maxLen) (hb : IsByte l) (hc : BytesIn w b off l) (hK : Ks w) (hS : Starts w) :
    Calls Tryz.prog 57 #[.slice (some ⟨b, off, none⟩) l.length cap] w fun e w' => e = .returned (.agg (rowArr 32 (spV x0))) ∧ Below w.heap.size w w' := by
  unfold maxLen at hcm
  have hlt := hK.lt
  have HB := Lib.hid hb
  have HC := Lib.hid hc
  have HK := Lib.hid hK
  have HS := Lib.hid hS
  clear hb hc hK hS
  obtain ⟨t0, fr0, hh0⟩ := HS.out
  have HST : Hid (∀ c : Array Value, (w.alloc (.cells c 50)).heap[0]? = some (.cells (rowArr 8 (stV start8)) t0 fr0)) := fun c => by rw [Below.heap_alloc _ _ _ (by omega)]; exact hh0
  clear hh0
  go_enter Tryz.func57, Tryz.ntmps57
  go_wp2_with (first | (refine wpList_load_row rfl 196 _ rfl 0 rfl t0 (rowArr 8 (stV start8)) fr0 _ (HST.out _) Tryz.underlying196 rfl (by rw [rowArr_size]; kernel_rfl) ?_) | (refine wpList_store_row rfl 196 _ _ rfl (w.heap.size + 1) (rowArr 8 (stV start8)) rfl rfl 196 _ (by simpa using heap_alloc_last (w.alloc _) _) (by rw [rowArr_size]; kernel_rfl) (by rw [rowArr_size]; rfl) (oneCell_st start8) ?_))
  go_loopw [5] (fun i wr => ∃ k t : Nat, Hid (t = 64 * k) ∧ t ≤ l.length ∧ i = .int .i64 (t : Int) ∧ Hid (Dg w wr (comp (padN l) k))) (fun i _ => l.length - (intOf i).toNat)
  case atStart => exact ⟨0, 0, rfl, by omega, rfl, ⟨Go.Proofs.YtfgaohilpbocbaaGreatDoor.Sha.below_setRow (((Below.refl _ _).alloc (Nat.le_refl _) _).alloc (by simp) _) (by omega) _, Row.setRow_other ((Row.new' _ _ _ _ _ _ rfl rfl).alloc _) (by omega) _, Row.whole_set (k := 0) (g := zV) (Row.new' _ _ _ _ _ _ (by simp) rfl)⟩⟩
  case round =>
    obtain ⟨k, t, HT, htl, rfl, HD⟩ := hrel
    by_cases hlt2 : (t : Int) < (l.length : Int) / 64 * 64
    · have htk : t + 64 ≤ l.length := by have := HT.out; omega
      have hrow := HD.out.row
      have hok := comp_ok (padN l) k
      have hnx : mixN (comp (padN l) k) (fun j => (padN l).getD (t + j) 0) = comp (padN l) (k + 1) := by rw [HT.out]; rfl
      have HNX := Lib.hid hnx
      clear hnx
      generalize comp (padN l) k = x at *
      have q0 : wr.cell? ⟨w.heap.size + 1, 0, none⟩ = some (.int .u32 (x.p : Int)) := hrow.cell 0 (by omega)
      have q1 : wr.cell? ⟨w.heap.size + 1, 1, none⟩ = some (.int .u32 (x.q : Int)) := hrow.cell 1 (by omega)
      have q2 : wr.cell? ⟨w.heap.size + 1, 2, none⟩ = some (.int .u32 (x.r : Int)) := hrow.cell 2 (by omega)
      have q3 : wr.cell? ⟨w.heap.size + 1, 3, none⟩ = some (.int .u32 (x.s : Int)) := hrow.cell 3 (by omega)
      have q4 : wr.cell? ⟨w.heap.size + 1, 4, none⟩ = some (.int .u32 (x.t : Int)) := hrow.cell 4 (by omega)
      have q5 : wr.cell? ⟨w.heap.size + 1, 5, none⟩ = some (.int .u32 (x.u : Int)) := hrow.cell 5 (by omega)
      have q6 : wr.cell? ⟨w.heap.size + 1, 6, none⟩ = some (.int .u32 (x.v : Int)) := hrow.cell 6 (by omega)
      have q7 : wr.cell? ⟨w.heap.size + 1, 7, none⟩ = some (.int .u32 (x.w : Int)) := hrow.cell 7 (by omega)
      have HM : Hid (Calls Tryz.prog 100 #[.agg #[.int .u32 (x.p : Int), .int .u32 (x.q : Int), .int .u32 (x.r : Int), .int .u32 (x.s : Int), .int .u32 (x.t : Int), .int .u32 (x.u : Int), .int .u32 (x.v : Int), .int .u32 (x.w : Int)], .slice (some ⟨b, off + t, none⟩) 64 (cap - t)] wr.drew
        fun e w' => e = .returned (.agg (rowArr 8 (stV (comp (padN l) (k + 1))))) ∧ Below wr.drew.heap.size wr.drew w') := by
          rw [← HNX.out]
          exact mix_at b (off + t) (cap - t) _ x hok wr.drew (getD_byte (padN_byte HB.out) t) (block_of_bytes (HC.out.below (Nat.le_refl _) HD.out.below.drew) t htk) (HK.out.below hlt HD.out.below.drew)
      have s1 : IntKind.i64.wrap ((t : Int) + 64) = (t : Int) + 64 := IntWalk.i64_in _ (by omega)
      have s2 : ((t : Int) + 64).toNat = t + 64 := by omega
      have s3 : (0 : Int) ≤ (t : Int) + 64 := by omega
      have s4 : (t : Int) ≤ (t : Int) + 64 := by omega
      have s5 : (t : Int) + 64 ≤ (cap : Int) := by omega
      have s6 : ¬ cap = t := by omega
      have s7 : t + 64 - t = 64 := by omega
      clear hrow
      go_wp2_with fail
      refine wp_region_still_tail 6 (by kernel_rfl) (by kernel_rfl) ?_
      simp only [List.take_succ_cons, List.take_zero, List.drop_succ_cons, List.drop_zero]
      repeat still_step
      refine wpStill_nil ?_
      change wpList _ _ _ _ _ wr.drew
      clear q0 q1 q2 q3 q4 q5 q6 q7 s1 s2 s3 s4 s5 s6 s7
      go_wp2_with (first | (go_at_call 100; (refine HM.out.mono ?_); rintro e w5 ⟨rfl, b5⟩; have HO5 : Hid (w5.heap[w.heap.size + 1]? = some (.cells (rowArr 8 (stV x)) 196 (0, 0))) := (HD.out.drew 1).old b5; have HD5 : Hid (Dg w (w5.setRow (w.heap.size + 1) (rowArr 8 (stV (comp (padN l) (k + 1))))) (comp (padN l) (k + 1))) := (HD.out.drew 1).next b5; clear b5) | (refine wpList_store_row rfl 196 _ _ rfl (w.heap.size + 1) (rowArr 8 (stV (comp (padN l) (k + 1)))) rfl rfl 196 _ HO5.out (by rw [rowArr_size]; kernel_rfl) (by rw [rowArr_size, rowArr_size]) (oneCell_st _) ?_))
      go_roundw
      case rel => exact ⟨k + 1, t + 64, by have := HT.out; show _ = _; omega, by omega, by go_num, HD5⟩
      case measure => simp [intOf]; omega
    · have hk : l.length / 64 = k := by have := HT.out; omega
      have htk : t = 64 * k := HT.out
      have hplen := padN_length l
      have hpmod := padN_mod l
      obtain ⟨sz, hsz⟩ : ∃ sz, sz = (padN l).length - 64 * k := ⟨_, rfl⟩
      have hgap : gap l.length = (119 - l.length % 64) % 64 := rfl
      have hsz1 : (sz = 64 ∧ l.length - 64 * k + 9 ≤ 64) ∨ (sz = 128 ∧ 64 < l.length - 64 * k + 9 ∧ l.length - 64 * k < 64) := by omega
      have hszp : (padN l).length = 64 * k + sz := by omega
      have hdl : (l.drop (64 * k)).length = l.length - 64 * k := by simp
      have hw64 : l.length / 64 * 64 = 64 * k := by omega
      have HPAD : Hid (∀ (a' : Option Addr) (cap' : Nat), BytesAt wr a' (l.drop (64 * k)) → Calls Tryz.prog 101 #[.slice a' (l.length - l.length / 64 * 64) cap', .int .i64 (l.length : Int)] wr fun e w' => e = .returned (.slice (some ⟨wr.heap.size, 0, none⟩) sz sz) ∧ Pad wr w' (l.drop (64 * k)) l.length sz 8) := by
        intro a' cap' hba
        have hbd : IsByte (l.drop (64 * k)) := fun c hc => HB.out c (List.mem_of_mem_drop hc)
        rw [hw64, ← hdl]
        rcases hsz1 with ⟨rfl, h⟩ | ⟨rfl, h, h'⟩
        · exact pad64 a' cap' _ _ wr (by omega) (by omega) hbd hba
        · exact pad128 a' cap' _ _ wr (by omega) (by omega) (by omega) hbd hba
      have HBr : Hid (BytesIn wr b (off + l.length / 64 * 64) (l.drop (64 * k))) := by
        intro i hi
        have := HC.out.below (Nat.le_refl _) HD.out.below (64 * k + i) (by omega)
        rw [hw64, Nat.add_assoc, this]
        simp
      have HNIL : Hid (cap = l.length / 64 * 64 → l.drop (64 * k) = []) := fun h => List.length_eq_zero_iff.1 (by omega)
      have HKK := Lib.hid hk
      have HSZ := Lib.hid hszp
      have hsz2 : sz ≤ 128 := by omega
      have HSM : Hid (sz % 64 = 0) := by show sz % 64 = 0; omega
      have hd2 : decide ((t : Int) < (l.length : Int) / 64 * 64) = false := by simp; omega
      have HP2 := Lib.hid (HPAD.out (some ⟨b, off + l.length / 64 * 64, none⟩) (cap - l.length / 64 * 64) (.inr ⟨b, _, rfl, HBr.out⟩))
      have HP1 : Hid (cap = l.length / 64 * 64 → _) := fun h => HPAD.out (some ⟨b, off, none⟩) 0 (.inl (HNIL.out h))
      clear hsz1 hszp hsz hgap hplen hpmod hdl hk htk hw64
      have HLT : Hid (w.heap.size + 1 < wr.heap.size) := HD.out.row.lt
      have HX : Hid (k + sz / 64 = (padN l).length / 64) := by have := HSZ.out; have := HSM.out; show _ = _; omega
      clear HPAD HBr HNIL
      by_cases hcw : cap = l.length / 64 * 64
      · subst hcw
        have hp0 := HP1.out rfl
        rw [show l.length - l.length / 64 * 64 = 0 by omega] at hp0
        have HP0 := Lib.hid hp0
        clear HP1 HP2 hp0
        go_wp2_with fail
        (with_reducible refine HP0.out.mono ?_)
        clear HP0
        rintro e w6 ⟨rfl, hpd⟩
        have HRT := Lib.hid hpd.row
        have HD6 : Hid (Dg w w6 (comp (padN l) k)) := ⟨HD.out.below.trans (hpd.below.mono HD.out.below.size), HD.out.out.below hpd.below HD.out.out.lt, HD.out.row.below hpd.below HD.out.row.lt⟩
        clear hpd HD
        generalize wr.heap.size = B at *
        go_wp2_with fail
        go_loopw [7] (fun i wq => ∃ j t : Nat, Hid (t = 64 * j) ∧ t ≤ sz ∧ i = .int .i64 (t : Int) ∧ Hid (Dg w wq (comp (padN l) (k + j))) ∧ Hid (Row wq B 5 sz sz (tlV (l.drop (64 * k)) l.length sz 8))) (fun i _ => sz - (intOf i).toNat)
        case atStart => exact ⟨0, 0, rfl, by omega, rfl, HD6, HRT⟩
        case round =>
          obtain ⟨j, t, HT2, ht2, rfl, HDq, HRq⟩ := hrel
          by_cases hlt3 : t < sz
          · have ht64 : t + 64 ≤ sz := by have := HT2.out; have := HSM.out; omega
            have hrow := HDq.out.row
            have hok := comp_ok (padN l) (k + j)
            have hnx : mixN (comp (padN l) (k + j)) (fun i => (padN l).getD (64 * k + t + i) 0) = comp (padN l) (k + (j + 1)) := by
              rw [HT2.out, show 64 * k + 64 * j = 64 * (k + j) by omega]; rfl
            have HNX := Lib.hid hnx
            clear hnx
            generalize comp (padN l) (k + j) = x at *
            have q0 : wr.cell? ⟨w.heap.size + 1, 0, none⟩ = some (.int .u32 (x.p : Int)) := hrow.cell 0 (by omega)
            have q1 : wr.cell? ⟨w.heap.size + 1, 1, none⟩ = some (.int .u32 (x.q : Int)) := hrow.cell 1 (by omega)
            have q2 : wr.cell? ⟨w.heap.size + 1, 2, none⟩ = some (.int .u32 (x.r : Int)) := hrow.cell 2 (by omega)
            have q3 : wr.cell? ⟨w.heap.size + 1, 3, none⟩ = some (.int .u32 (x.s : Int)) := hrow.cell 3 (by omega)
            have q4 : wr.cell? ⟨w.heap.size + 1, 4, none⟩ = some (.int .u32 (x.t : Int)) := hrow.cell 4 (by omega)
            have q5 : wr.cell? ⟨w.heap.size + 1, 5, none⟩ = some (.int .u32 (x.u : Int)) := hrow.cell 5 (by omega)
            have q6 : wr.cell? ⟨w.heap.size + 1, 6, none⟩ = some (.int .u32 (x.v : Int)) := hrow.cell 6 (by omega)
            have q7 : wr.cell? ⟨w.heap.size + 1, 7, none⟩ = some (.int .u32 (x.w : Int)) := hrow.cell 7 (by omega)
            have HM : Hid (Calls Tryz.prog 100 #[.agg #[.int .u32 (x.p : Int), .int .u32 (x.q : Int), .int .u32 (x.r : Int), .int .u32 (x.s : Int), .int .u32 (x.t : Int), .int .u32 (x.u : Int), .int .u32 (x.v : Int), .int .u32 (x.w : Int)], .slice (some ⟨B, t, none⟩) 64 (sz - t)] wr.drew
              fun e w' => e = .returned (.agg (rowArr 8 (stV (comp (padN l) (k + (j + 1)))))) ∧ Below wr.drew.heap.size wr.drew w') := by
                rw [← HNX.out]
                exact mix_at B t (sz - t) _ x hok wr.drew (getD_byte (padN_byte HB.out) (64 * k + t)) (block_of_tail (HRq.out.drew 1) HKK.out HSZ.out t ht64) (HK.out.below hlt HDq.out.below.drew)
            have s1 : IntKind.i64.wrap ((t : Int) + 64) = (t : Int) + 64 := IntWalk.i64_in _ (by omega)
            have s2 : ((t : Int) + 64).toNat = t + 64 := by omega
            have s3 : (0 : Int) ≤ (t : Int) + 64 := by omega
            have s4 : (t : Int) ≤ (t : Int) + 64 := by omega
            have s5 : (t : Int) + 64 ≤ (sz : Int) := by omega
            have s6 : ¬ sz = t := by omega
            have s7 : t + 64 - t = 64 := by omega
            have hd3 : decide ((t : Int) < (sz : Int)) = true := by simp; omega
            clear hrow
            go_wp2_with fail
            refine wp_region_still_tail 6 (by kernel_rfl) (by kernel_rfl) ?_
            simp only [List.take_succ_cons, List.take_zero, List.drop_succ_cons, List.drop_zero]
            repeat still_step
            refine wpStill_nil ?_
            change wpList _ _ _ _ _ wr.drew
            clear q0 q1 q2 q3 q4 q5 q6 q7 s1 s2 s3 s4 s5 s6 s7
            go_wp2_with (first | (go_at_call 100; (refine HM.out.mono ?_); rintro e w5 ⟨rfl, b5⟩; have HO5 : Hid (w5.heap[w.heap.size + 1]? = some (.cells (rowArr 8 (stV x)) 196 (0, 0))) := (HDq.out.drew 1).old b5; have HD5 : Hid (Dg w (w5.setRow (w.heap.size + 1) (rowArr 8 (stV (comp (padN l) (k + (j + 1)))))) (comp (padN l) (k + (j + 1)))) := (HDq.out.drew 1).next b5; have HR5 : Hid (Row (w5.setRow (w.heap.size + 1) (rowArr 8 (stV (comp (padN l) (k + (j + 1)))))) B 5 sz sz (tlV (l.drop (64 * k)) l.length sz 8)) := ((HRq.out.drew 1).below b5 (HRq.out.drew 1).lt).setRow_other (by have := HLT.out; omega) _; clear b5) | (refine wpList_store_row rfl 196 _ _ rfl (w.heap.size + 1) (rowArr 8 (stV (comp (padN l) (k + (j + 1))))) rfl rfl 196 _ HO5.out (by rw [rowArr_size]; kernel_rfl) (by rw [rowArr_size, rowArr_size]) (oneCell_st _) ?_))
            go_roundw
            case rel => exact ⟨j + 1, t + 64, by have := HT2.out; show _ = _; omega, by omega, by go_num, HD5, HR5⟩
            case measure => simp [intOf]; omega
          · have hts : t = sz := by omega
            subst hts
            have hkj : k + j = (padN l).length / 64 := by have := HX.out; have := HT2.out; omega
            rw [hkj, HX0.out] at HDq
            have hok : x0.Ok := by rw [← HX0.out]; exact comp_ok (padN l) ((padN l).length / 64)
            have HWH := Lib.hid HDq.out.row.whole
            have HSP := Lib.hid (spell_any x0 hok wr)
            have HKJ := Lib.hid hkj
            clear hkj
            go_wp2_with (first | (refine wpList_load_row rfl 196 _ rfl (w.heap.size + 1) rfl 196 (rowArr 8 (stV x0)) (0, 0) _ HWH.out Tryz.underlying196 rfl (by rw [rowArr_size]; kernel_rfl) ?_) | (go_at_call 102; (refine HSP.out.mono ?_); rintro e w7 ⟨rfl, b7⟩; obtain ⟨old, ho1, ho2, _⟩ := HDq.out.out.below b7 HDq.out.out.lt; have HO := Lib.hid ho1; have HO2 := Lib.hid ho2; have HB7 : Hid (Below w.heap.size w w7) := HDq.out.below.trans (b7.mono HDq.out.below.size); clear b7 ho1 ho2) | (refine wpList_store_row rfl 50 _ _ rfl w.heap.size (rowArr 32 (spV x0)) rfl rfl 50 _ HO.out (by rw [rowArr_size]; kernel_rfl) (by rw [rowArr_size]; exact HO2.out) (oneCell_sp x0 32) ?_))
            exact bodyPost_ret (v := .agg (rowArr 32 (spV x0))) (results_cell_row rfl _ _ w.heap.size 50 (rowArr 32 (spV x0)) (0, 0) _ rfl (setRow_heap _ _ _ _ _ _ HO.out) Tryz.underlying50 rfl (by rw [rowArr_size]; kernel_rfl)) rfl ⟨rfl, Go.Proofs.YtfgaohilpbocbaaGreatDoor.Sha.below_setRow HB7.out (Nat.le_refl _) _⟩
      · go_wp2_with fail
        (with_reducible refine HP2.out.mono ?_)
        clear HP1 HP2
        rintro e w6 ⟨rfl, hpd⟩
        have HRT := Lib.hid hpd.row
        have HD6 : Hid (Dg w w6 (comp (padN l) k)) := ⟨HD.out.below.trans (hpd.below.mono HD.out.below.size), HD.out.out.below hpd.below HD.out.out.lt, HD.out.row.below hpd.below HD.out.row.lt⟩
        clear hpd HD
        generalize wr.heap.size = B at *
        go_wp2_with fail
        go_loopw [7] (fun i wq => ∃ j t : Nat, Hid (t = 64 * j) ∧ t ≤ sz ∧ i = .int .i64 (t : Int) ∧ Hid (Dg w wq (comp (padN l) (k + j))) ∧ Hid (Row wq B 5 sz sz (tlV (l.drop (64 * k)) l.length sz 8))) (fun i _ => sz - (intOf i).toNat)
        case atStart => exact ⟨0, 0, rfl, by omega, rfl, HD6, HRT⟩
        case round =>
          obtain ⟨j, t, HT2, ht2, rfl, HDq, HRq⟩ := hrel
          by_cases hlt3 : t < sz
          · have ht64 : t + 64 ≤ sz := by have := HT2.out; have := HSM.out; omega
            have hrow := HDq.out.row
            have hok := comp_ok (padN l) (k + j)
            have hnx : mixN (comp (padN l) (k + j)) (fun i => (padN l).getD (64 * k + t + i) 0) = comp (padN l) (k + (j + 1)) := by
              rw [HT2.out, show 64 * k + 64 * j = 64 * (k + j) by omega]; rfl
            have HNX := Lib.hid hnx
            clear hnx
            generalize comp (padN l) (k + j) = x at *
            have q0 : wr.cell? ⟨w.heap.size + 1, 0, none⟩ = some (.int .u32 (x.p : Int)) := hrow.cell 0 (by omega)
            have q1 : wr.cell? ⟨w.heap.size + 1, 1, none⟩ = some (.int .u32 (x.q : Int)) := hrow.cell 1 (by omega)
            have q2 : wr.cell? ⟨w.heap.size + 1, 2, none⟩ = some (.int .u32 (x.r : Int)) := hrow.cell 2 (by omega)
            have q3 : wr.cell? ⟨w.heap.size + 1, 3, none⟩ = some (.int .u32 (x.s : Int)) := hrow.cell 3 (by omega)
            have q4 : wr.cell? ⟨w.heap.size + 1, 4, none⟩ = some (.int .u32 (x.t : Int)) := hrow.cell 4 (by omega)
            have q5 : wr.cell? ⟨w.heap.size + 1, 5, none⟩ = some (.int .u32 (x.u : Int)) := hrow.cell 5 (by omega)
            have q6 : wr.cell? ⟨w.heap.size + 1, 6, none⟩ = some (.int .u32 (x.v : Int)) := hrow.cell 6 (by omega)
            have q7 : wr.cell? ⟨w.heap.size + 1, 7, none⟩ = some (.int .u32 (x.w : Int)) := hrow.cell 7 (by omega)
            have HM : Hid (Calls Tryz.prog 100 #[.agg #[.int .u32 (x.p : Int), .int .u32 (x.q : Int), .int .u32 (x.r : Int), .int .u32 (x.s : Int), .int .u32 (x.t : Int), .int .u32 (x.u : Int), .int .u32 (x.v : Int), .int .u32 (x.w : Int)], .slice (some ⟨B, t, none⟩) 64 (sz - t)] wr.drew
              fun e w' => e = .returned (.agg (rowArr 8 (stV (comp (padN l) (k + (j + 1)))))) ∧ Below wr.drew.heap.size wr.drew w') := by
                rw [← HNX.out]
                exact mix_at B t (sz - t) _ x hok wr.drew (getD_byte (padN_byte HB.out) (64 * k + t)) (block_of_tail (HRq.out.drew 1) HKK.out HSZ.out t ht64) (HK.out.below hlt HDq.out.below.drew)
            have s1 : IntKind.i64.wrap ((t : Int) + 64) = (t : Int) + 64 := IntWalk.i64_in _ (by omega)
            have s2 : ((t : Int) + 64).toNat = t + 64 := by omega
            have s3 : (0 : Int) ≤ (t : Int) + 64 := by omega
            have s4 : (t : Int) ≤ (t : Int) + 64 := by omega
            have s5 : (t : Int) + 64 ≤ (sz : Int) := by omega
            have s6 : ¬ sz = t := by omega
            have s7 : t + 64 - t = 64 := by omega
            have hd3 : decide ((t : Int) < (sz : Int)) = true := by simp; omega
            clear hrow
            go_wp2_with fail
            refine wp_region_still_tail 6 (by kernel_rfl) (by kernel_rfl) ?_
            simp only [List.take_succ_cons, List.take_zero, List.drop_succ_cons, List.drop_zero]
            repeat still_step
            refine wpStill_nil ?_
            change wpList _ _ _ _ _ wr.drew
            clear q0 q1 q2 q3 q4 q5 q6 q7 s1 s2 s3 s4 s5 s6 s7
            go_wp2_with (first | (go_at_call 100; (refine HM.out.mono ?_); rintro e w5 ⟨rfl, b5⟩; have HO5 : Hid (w5.heap[w.heap.size + 1]? = some (.cells (rowArr 8 (stV x)) 196 (0, 0))) := (HDq.out.drew 1).old b5; have HD5 : Hid (Dg w (w5.setRow (w.heap.size + 1) (rowArr 8 (stV (comp (padN l) (k + (j + 1)))))) (comp (padN l) (k + (j + 1)))) := (HDq.out.drew 1).next b5; have HR5 : Hid (Row (w5.setRow (w.heap.size + 1) (rowArr 8 (stV (comp (padN l) (k + (j + 1)))))) B 5 sz sz (tlV (l.drop (64 * k)) l.length sz 8)) := ((HRq.out.drew 1).below b5 (HRq.out.drew 1).lt).setRow_other (by have := HLT.out; omega) _; clear b5) | (refine wpList_store_row rfl 196 _ _ rfl (w.heap.size + 1) (rowArr 8 (stV (comp (padN l) (k + (j + 1))))) rfl rfl 196 _ HO5.out (by rw [rowArr_size]; kernel_rfl) (by rw [rowArr_size, rowArr_size]) (oneCell_st _) ?_))
            go_roundw
            case rel => exact ⟨j + 1, t + 64, by have := HT2.out; show _ = _; omega, by omega, by go_num, HD5, HR5⟩
            case measure => simp [intOf]; omega
          · have hts : t = sz := by omega
            subst hts
            have hkj : k + j = (padN l).length / 64 := by have := HX.out; have := HT2.out; omega
            rw [hkj, HX0.out] at HDq
            have hok : x0.Ok := by rw [← HX0.out]; exact comp_ok (padN l) ((padN l).length / 64)
            have HWH := Lib.hid HDq.out.row.whole
            have HSP := Lib.hid (spell_any x0 hok wr)
            have HKJ := Lib.hid hkj
            clear hkj
            go_wp2_with (first | (refine wpList_load_row rfl 196 _ rfl (w.heap.size + 1) rfl 196 (rowArr 8 (stV x0)) (0, 0) _ HWH.out Tryz.underlying196 rfl (by rw [rowArr_size]; kernel_rfl) ?_) | (go_at_call 102; (refine HSP.out.mono ?_); rintro e w7 ⟨rfl, b7⟩; obtain ⟨old, ho1, ho2, _⟩ := HDq.out.out.below b7 HDq.out.out.lt; have HO := Lib.hid ho1; have HO2 := Lib.hid ho2; have HB7 : Hid (Below w.heap.size w w7) := HDq.out.below.trans (b7.mono HDq.out.below.size); clear b7 ho1 ho2) | (refine wpList_store_row rfl 50 _ _ rfl w.heap.size (rowArr 32 (spV x0)) rfl rfl 50 _ HO.out (by rw [rowArr_size]; kernel_rfl) (by rw [rowArr_size]; exact HO2.out) (oneCell_sp x0 32) ?_))
            exact bodyPost_ret (v := .agg (rowArr 32 (spV x0))) (results_cell_row rfl _ _ w.heap.size 50 (rowArr 32 (spV x0)) (0, 0) _ rfl (setRow_heap _ _ _ _ _ _ HO.out) Tryz.underlying50 rfl (by rw [rowArr_size]; kernel_rfl)) rfl ⟨rfl, Go.Proofs.YtfgaohilpbocbaaGreatDoor.Sha.below_setRow HB7.out (Nat.le_refl _) _⟩

theorem digest_some (b off cap : Nat) (l : List Nat) (w : World) (hl : l.length ≤ 1000000) (hlc : l.length ≤ cap) (hcm : cap ≤ maxLen) (hb : IsByte l) (hc : BytesIn w b off l) (hK : Ks w) (hS : Starts w) :
    Calls Tryz.prog 57 #[.slice (some ⟨b, off, none⟩) l.length cap] w fun e w' => e = .returned (.agg (rowArr 32 (spV (comp (padN l) ((padN l).length / 64))))) ∧ Below w.heap.size w w' :=
  digest_core b off cap l _ rfl w hl hlc hcm hb hc hK hS

end Go.Proofs.YtfgaohilpbocbaaGreatDoor.Sha
end

section
namespace Go.Proofs.YtfgaohilpbocbaaGreatDoor.Sha
open Go.ChangeShapes Go.WideShapes Go.ChangeAt Go.RowKit
set_option linter.unusedVariables false

set_option maxRecDepth 100000 in
set_option maxHeartbeats 1000000 in
theorem digest_void (a : Option Addr) (cap : Nat) (x0 : S8) (HX0 : Hid (comp (padN []) ((padN []).length / 64) = x0)) (w : World) (hcm : cap ≤ maxLen) (hK : Ks w) (hS : Starts w) :
    Calls Tryz.prog 57 #[.slice a 0 cap] w fun e w' => e = .returned (.agg (rowArr 32 (spV x0))) ∧ Below w.heap.size w w' := by
  unfold maxLen at hcm
  have hlt := hK.lt
  have HK := Lib.hid hK
  have HS := Lib.hid hS
  clear hK hS
  obtain ⟨t0, fr0, hh0⟩ := HS.out
  have HST : Hid (∀ c : Array Value, (w.alloc (.cells c 50)).heap[0]? = some (.cells (rowArr 8 (stV start8)) t0 fr0)) := fun c => by rw [Below.heap_alloc _ _ _ (by omega)]; exact hh0
  clear hh0
  go_enter Tryz.func57, Tryz.ntmps57
  go_wp2_with (first | (refine wpList_load_row rfl 196 _ rfl 0 rfl t0 (rowArr 8 (stV start8)) fr0 _ (HST.out _) Tryz.underlying196 rfl (by rw [rowArr_size]; kernel_rfl) ?_) | (refine wpList_store_row rfl 196 _ _ rfl (w.heap.size + 1) (rowArr 8 (stV start8)) rfl rfl 196 _ (by simpa using heap_alloc_last (w.alloc _) _) (by rw [rowArr_size]; kernel_rfl) (by rw [rowArr_size]; rfl) (oneCell_st start8) ?_))
  go_loopw [5] (fun i wr => i = .int .i64 0 ∧ Hid (Dg w wr start8)) (fun i _ => 0)
  case atStart => exact ⟨rfl, ⟨Go.Proofs.YtfgaohilpbocbaaGreatDoor.Sha.below_setRow (((Below.refl _ _).alloc (Nat.le_refl _) _).alloc (by simp) _) (by omega) _, Row.setRow_other ((Row.new' _ _ _ _ _ _ rfl rfl).alloc _) (by omega) _, Row.whole_set (k := 0) (g := zV) (Row.new' _ _ _ _ _ _ (by simp) rfl)⟩⟩
  case round =>
    obtain ⟨rfl, HD⟩ := hrel
    obtain ⟨l, HL⟩ : ∃ l : List Nat, Hid (l = []) := ⟨[], rfl⟩
    obtain ⟨k, HK0⟩ : ∃ k : Nat, Hid (k = 0) := ⟨0, rfl⟩
    obtain ⟨sz, HS0⟩ : ∃ k : Nat, Hid (k = 64) := ⟨64, rfl⟩
    have HB : Hid (IsByte l) := by rw [HL.out]; intro c hc; simp at hc
    have HKK : Hid (l.length / 64 = k) := by rw [HL.out, HK0.out]; rfl
    have HSZ : Hid ((padN l).length = 64 * k + sz) := by rw [HL.out, HK0.out, HS0.out]; rfl
    have HSM : Hid (sz % 64 = 0) := by rw [HS0.out]; rfl
    have hsz2 : sz ≤ 128 := by have := HS0.out; omega
    have HX : Hid (k + sz / 64 = (padN l).length / 64) := by rw [HL.out, HK0.out, HS0.out]; rfl
    rw [← HL.out] at HX0
    have HLT : Hid (w.heap.size + 1 < wr.heap.size) := HD.out.row.lt
    have HP0 : Hid (Calls Tryz.prog 101 #[.slice a 0 cap, .int .i64 0] wr fun e w' => e = .returned (.slice (some ⟨wr.heap.size, 0, none⟩) sz sz) ∧ Pad wr w' (l.drop (64 * k)) l.length sz 8) := by
      rw [HL.out, HK0.out, HS0.out]
      exact pad64 a cap [] 0 wr (by simp) (by omega) (by intro c hc; simp at hc) (.inl rfl)
    have HDk : Hid (Dg w wr (comp (padN l) k)) := by rw [HK0.out]; exact HD.out
    clear HD
    rcases a with _ | ad
    · go_wp2_with fail
      (with_reducible refine HP0.out.mono ?_)
      clear HP0
      rintro e w6 ⟨rfl, hpd⟩
      have HRT := Lib.hid hpd.row
      have HD6 : Hid (Dg w w6 (comp (padN l) k)) := ⟨HDk.out.below.trans (hpd.below.mono HDk.out.below.size), HDk.out.out.below hpd.below HDk.out.out.lt, HDk.out.row.below hpd.below HDk.out.row.lt⟩
      clear hpd HDk
      generalize wr.heap.size = B at *
      go_wp2_with fail
      go_loopw [7] (fun i wq => ∃ j t : Nat, Hid (t = 64 * j) ∧ t ≤ sz ∧ i = .int .i64 (t : Int) ∧ Hid (Dg w wq (comp (padN l) (k + j))) ∧ Hid (Row wq B 5 sz sz (tlV (l.drop (64 * k)) l.length sz 8))) (fun i _ => sz - (intOf i).toNat)
      case atStart => exact ⟨0, 0, rfl, by omega, rfl, HD6, HRT⟩
      case round =>
        obtain ⟨j, t, HT2, ht2, rfl, HDq, HRq⟩ := hrel
        by_cases hlt3 : t < sz
        · have ht64 : t + 64 ≤ sz := by have := HT2.out; have := HSM.out; omega
          have hrow := HDq.out.row
          have hok := comp_ok (padN l) (k + j)
          have hnx : mixN (comp (padN l) (k + j)) (fun i => (padN l).getD (64 * k + t + i) 0) = comp (padN l) (k + (j + 1)) := by
            rw [HT2.out, show 64 * k + 64 * j = 64 * (k + j) by omega]; rfl
          have HNX := Lib.hid hnx
          clear hnx
          generalize comp (padN l) (k + j) = x at *
          have q0 : wr.cell? ⟨w.heap.size + 1, 0, none⟩ = some (.int .u32 (x.p : Int)) := hrow.cell 0 (by omega)
          have q1 : wr.cell? ⟨w.heap.size + 1, 1, none⟩ = some (.int .u32 (x.q : Int)) := hrow.cell 1 (by omega)
          have q2 : wr.cell? ⟨w.heap.size + 1, 2, none⟩ = some (.int .u32 (x.r : Int)) := hrow.cell 2 (by omega)
          have q3 : wr.cell? ⟨w.heap.size + 1, 3, none⟩ = some (.int .u32 (x.s : Int)) := hrow.cell 3 (by omega)
          have q4 : wr.cell? ⟨w.heap.size + 1, 4, none⟩ = some (.int .u32 (x.t : Int)) := hrow.cell 4 (by omega)
          have q5 : wr.cell? ⟨w.heap.size + 1, 5, none⟩ = some (.int .u32 (x.u : Int)) := hrow.cell 5 (by omega)
          have q6 : wr.cell? ⟨w.heap.size + 1, 6, none⟩ = some (.int .u32 (x.v : Int)) := hrow.cell 6 (by omega)
          have q7 : wr.cell? ⟨w.heap.size + 1, 7, none⟩ = some (.int .u32 (x.w : Int)) := hrow.cell 7 (by omega)
          have HM : Hid (Calls Tryz.prog 100 #[.agg #[.int .u32 (x.p : Int), .int .u32 (x.q : Int), .int .u32 (x.r : Int), .int .u32 (x.s : Int), .int .u32 (x.t : Int), .int .u32 (x.u : Int), .int .u32 (x.v : Int), .int .u32 (x.w : Int)], .slice (some ⟨B, t, none⟩) 64 (sz - t)] wr.drew
            fun e w' => e = .returned (.agg (rowArr 8 (stV (comp (padN l) (k + (j + 1)))))) ∧ Below wr.drew.heap.size wr.drew w') := by
              rw [← HNX.out]
              exact mix_at B t (sz - t) _ x hok wr.drew (getD_byte (padN_byte HB.out) (64 * k + t)) (block_of_tail (HRq.out.drew 1) HKK.out HSZ.out t ht64) (HK.out.below hlt HDq.out.below.drew)
          have s1 : IntKind.i64.wrap ((t : Int) + 64) = (t : Int) + 64 := IntWalk.i64_in _ (by omega)
          have s2 : ((t : Int) + 64).toNat = t + 64 := by omega
          have s3 : (0 : Int) ≤ (t : Int) + 64 := by omega
          have s4 : (t : Int) ≤ (t : Int) + 64 := by omega
          have s5 : (t : Int) + 64 ≤ (sz : Int) := by omega
          have s6 : ¬ sz = t := by omega
          have s7 : t + 64 - t = 64 := by omega
          have hd3 : decide ((t : Int) < (sz : Int)) = true := by simp; omega
          clear hrow
          go_wp2_with fail
          refine wp_region_still_tail 6 (by kernel_rfl) (by kernel_rfl) ?_
          simp only [List.take_succ_cons, List.take_zero, List.drop_succ_cons, List.drop_zero]
          repeat still_step
          refine wpStill_nil ?_
          change wpList _ _ _ _ _ wr.drew
          clear q0 q1 q2 q3 q4 q5 q6 q7 s1 s2 s3 s4 s5 s6 s7
          go_wp2_with (first | (go_at_call 100; (refine HM.out.mono ?_); rintro e w5 ⟨rfl, b5⟩; have HO5 : Hid (w5.heap[w.heap.size + 1]? = some (.cells (rowArr 8 (stV x)) 196 (0, 0))) := (HDq.out.drew 1).old b5; have HD5 : Hid (Dg w (w5.setRow (w.heap.size + 1) (rowArr 8 (stV (comp (padN l) (k + (j + 1)))))) (comp (padN l) (k + (j + 1)))) := (HDq.out.drew 1).next b5; have HR5 : Hid (Row (w5.setRow (w.heap.size + 1) (rowArr 8 (stV (comp (padN l) (k + (j + 1)))))) B 5 sz sz (tlV (l.drop (64 * k)) l.length sz 8)) := ((HRq.out.drew 1).below b5 (HRq.out.drew 1).lt).setRow_other (by have := HLT.out; omega) _; clear b5) | (refine wpList_store_row rfl 196 _ _ rfl (w.heap.size + 1) (rowArr 8 (stV (comp (padN l) (k + (j + 1))))) rfl rfl 196 _ HO5.out (by rw [rowArr_size]; kernel_rfl) (by rw [rowArr_size, rowArr_size]) (oneCell_st _) ?_))
          go_roundw
          case rel => exact ⟨j + 1, t + 64, by have := HT2.out; show _ = _; omega, by omega, by go_num, HD5, HR5⟩
          case measure => simp [intOf]; omega
        · have hts : t = sz := by omega
          subst hts
          have hkj : k + j = (padN l).length / 64 := by have := HX.out; have := HT2.out; omega
          rw [hkj, HX0.out] at HDq
          have hok : x0.Ok := by rw [← HX0.out]; exact comp_ok (padN l) ((padN l).length / 64)
          have HWH := Lib.hid HDq.out.row.whole
          have HSP := Lib.hid (spell_any x0 hok wr)
          have HKJ := Lib.hid hkj
          clear hkj
          go_wp2_with (first | (refine wpList_load_row rfl 196 _ rfl (w.heap.size + 1) rfl 196 (rowArr 8 (stV x0)) (0, 0) _ HWH.out Tryz.underlying196 rfl (by rw [rowArr_size]; kernel_rfl) ?_) | (go_at_call 102; (refine HSP.out.mono ?_); rintro e w7 ⟨rfl, b7⟩; obtain ⟨old, ho1, ho2, _⟩ := HDq.out.out.below b7 HDq.out.out.lt; have HO := Lib.hid ho1; have HO2 := Lib.hid ho2; have HB7 : Hid (Below w.heap.size w w7) := HDq.out.below.trans (b7.mono HDq.out.below.size); clear b7 ho1 ho2) | (refine wpList_store_row rfl 50 _ _ rfl w.heap.size (rowArr 32 (spV x0)) rfl rfl 50 _ HO.out (by rw [rowArr_size]; kernel_rfl) (by rw [rowArr_size]; exact HO2.out) (oneCell_sp x0 32) ?_))
          exact bodyPost_ret (v := .agg (rowArr 32 (spV x0))) (results_cell_row rfl _ _ w.heap.size 50 (rowArr 32 (spV x0)) (0, 0) _ rfl (setRow_heap _ _ _ _ _ _ HO.out) Tryz.underlying50 rfl (by rw [rowArr_size]; kernel_rfl)) rfl ⟨rfl, Go.Proofs.YtfgaohilpbocbaaGreatDoor.Sha.below_setRow HB7.out (Nat.le_refl _) _⟩
    · go_wp2_with fail
      (with_reducible refine HP0.out.mono ?_)
      clear HP0
      rintro e w6 ⟨rfl, hpd⟩
      have HRT := Lib.hid hpd.row
      have HD6 : Hid (Dg w w6 (comp (padN l) k)) := ⟨HDk.out.below.trans (hpd.below.mono HDk.out.below.size), HDk.out.out.below hpd.below HDk.out.out.lt, HDk.out.row.below hpd.below HDk.out.row.lt⟩
      clear hpd HDk
      generalize wr.heap.size = B at *
      go_wp2_with fail
      go_loopw [7] (fun i wq => ∃ j t : Nat, Hid (t = 64 * j) ∧ t ≤ sz ∧ i = .int .i64 (t : Int) ∧ Hid (Dg w wq (comp (padN l) (k + j))) ∧ Hid (Row wq B 5 sz sz (tlV (l.drop (64 * k)) l.length sz 8))) (fun i _ => sz - (intOf i).toNat)
      case atStart => exact ⟨0, 0, rfl, by omega, rfl, HD6, HRT⟩
      case round =>
        obtain ⟨j, t, HT2, ht2, rfl, HDq, HRq⟩ := hrel
        by_cases hlt3 : t < sz
        · have ht64 : t + 64 ≤ sz := by have := HT2.out; have := HSM.out; omega
          have hrow := HDq.out.row
          have hok := comp_ok (padN l) (k + j)
          have hnx : mixN (comp (padN l) (k + j)) (fun i => (padN l).getD (64 * k + t + i) 0) = comp (padN l) (k + (j + 1)) := by
            rw [HT2.out, show 64 * k + 64 * j = 64 * (k + j) by omega]; rfl
          have HNX := Lib.hid hnx
          clear hnx
          generalize comp (padN l) (k + j) = x at *
          have q0 : wr.cell? ⟨w.heap.size + 1, 0, none⟩ = some (.int .u32 (x.p : Int)) := hrow.cell 0 (by omega)
          have q1 : wr.cell? ⟨w.heap.size + 1, 1, none⟩ = some (.int .u32 (x.q : Int)) := hrow.cell 1 (by omega)
          have q2 : wr.cell? ⟨w.heap.size + 1, 2, none⟩ = some (.int .u32 (x.r : Int)) := hrow.cell 2 (by omega)
          have q3 : wr.cell? ⟨w.heap.size + 1, 3, none⟩ = some (.int .u32 (x.s : Int)) := hrow.cell 3 (by omega)
          have q4 : wr.cell? ⟨w.heap.size + 1, 4, none⟩ = some (.int .u32 (x.t : Int)) := hrow.cell 4 (by omega)
          have q5 : wr.cell? ⟨w.heap.size + 1, 5, none⟩ = some (.int .u32 (x.u : Int)) := hrow.cell 5 (by omega)
          have q6 : wr.cell? ⟨w.heap.size + 1, 6, none⟩ = some (.int .u32 (x.v : Int)) := hrow.cell 6 (by omega)
          have q7 : wr.cell? ⟨w.heap.size + 1, 7, none⟩ = some (.int .u32 (x.w : Int)) := hrow.cell 7 (by omega)
          have HM : Hid (Calls Tryz.prog 100 #[.agg #[.int .u32 (x.p : Int), .int .u32 (x.q : Int), .int .u32 (x.r : Int), .int .u32 (x.s : Int), .int .u32 (x.t : Int), .int .u32 (x.u : Int), .int .u32 (x.v : Int), .int .u32 (x.w : Int)], .slice (some ⟨B, t, none⟩) 64 (sz - t)] wr.drew
            fun e w' => e = .returned (.agg (rowArr 8 (stV (comp (padN l) (k + (j + 1)))))) ∧ Below wr.drew.heap.size wr.drew w') := by
              rw [← HNX.out]
              exact mix_at B t (sz - t) _ x hok wr.drew (getD_byte (padN_byte HB.out) (64 * k + t)) (block_of_tail (HRq.out.drew 1) HKK.out HSZ.out t ht64) (HK.out.below hlt HDq.out.below.drew)
          have s1 : IntKind.i64.wrap ((t : Int) + 64) = (t : Int) + 64 := IntWalk.i64_in _ (by omega)
          have s2 : ((t : Int) + 64).toNat = t + 64 := by omega
          have s3 : (0 : Int) ≤ (t : Int) + 64 := by omega
          have s4 : (t : Int) ≤ (t : Int) + 64 := by omega
          have s5 : (t : Int) + 64 ≤ (sz : Int) := by omega
          have s6 : ¬ sz = t := by omega
          have s7 : t + 64 - t = 64 := by omega
          have hd3 : decide ((t : Int) < (sz : Int)) = true := by simp; omega
          clear hrow
          go_wp2_with fail
          refine wp_region_still_tail 6 (by kernel_rfl) (by kernel_rfl) ?_
          simp only [List.take_succ_cons, List.take_zero, List.drop_succ_cons, List.drop_zero]
          repeat still_step
          refine wpStill_nil ?_
          change wpList _ _ _ _ _ wr.drew
          clear q0 q1 q2 q3 q4 q5 q6 q7 s1 s2 s3 s4 s5 s6 s7
          go_wp2_with (first | (go_at_call 100; (refine HM.out.mono ?_); rintro e w5 ⟨rfl, b5⟩; have HO5 : Hid (w5.heap[w.heap.size + 1]? = some (.cells (rowArr 8 (stV x)) 196 (0, 0))) := (HDq.out.drew 1).old b5; have HD5 : Hid (Dg w (w5.setRow (w.heap.size + 1) (rowArr 8 (stV (comp (padN l) (k + (j + 1)))))) (comp (padN l) (k + (j + 1)))) := (HDq.out.drew 1).next b5; have HR5 : Hid (Row (w5.setRow (w.heap.size + 1) (rowArr 8 (stV (comp (padN l) (k + (j + 1)))))) B 5 sz sz (tlV (l.drop (64 * k)) l.length sz 8)) := ((HRq.out.drew 1).below b5 (HRq.out.drew 1).lt).setRow_other (by have := HLT.out; omega) _; clear b5) | (refine wpList_store_row rfl 196 _ _ rfl (w.heap.size + 1) (rowArr 8 (stV (comp (padN l) (k + (j + 1))))) rfl rfl 196 _ HO5.out (by rw [rowArr_size]; kernel_rfl) (by rw [rowArr_size, rowArr_size]) (oneCell_st _) ?_))
          go_roundw
          case rel => exact ⟨j + 1, t + 64, by have := HT2.out; show _ = _; omega, by omega, by go_num, HD5, HR5⟩
          case measure => simp [intOf]; omega
        · have hts : t = sz := by omega
          subst hts
          have hkj : k + j = (padN l).length / 64 := by have := HX.out; have := HT2.out; omega
          rw [hkj, HX0.out] at HDq
          have hok : x0.Ok := by rw [← HX0.out]; exact comp_ok (padN l) ((padN l).length / 64)
          have HWH := Lib.hid HDq.out.row.whole
          have HSP := Lib.hid (spell_any x0 hok wr)
          have HKJ := Lib.hid hkj
          clear hkj
          go_wp2_with (first | (refine wpList_load_row rfl 196 _ rfl (w.heap.size + 1) rfl 196 (rowArr 8 (stV x0)) (0, 0) _ HWH.out Tryz.underlying196 rfl (by rw [rowArr_size]; kernel_rfl) ?_) | (go_at_call 102; (refine HSP.out.mono ?_); rintro e w7 ⟨rfl, b7⟩; obtain ⟨old, ho1, ho2, _⟩ := HDq.out.out.below b7 HDq.out.out.lt; have HO := Lib.hid ho1; have HO2 := Lib.hid ho2; have HB7 : Hid (Below w.heap.size w w7) := HDq.out.below.trans (b7.mono HDq.out.below.size); clear b7 ho1 ho2) | (refine wpList_store_row rfl 50 _ _ rfl w.heap.size (rowArr 32 (spV x0)) rfl rfl 50 _ HO.out (by rw [rowArr_size]; kernel_rfl) (by rw [rowArr_size]; exact HO2.out) (oneCell_sp x0 32) ?_))
          exact bodyPost_ret (v := .agg (rowArr 32 (spV x0))) (results_cell_row rfl _ _ w.heap.size 50 (rowArr 32 (spV x0)) (0, 0) _ rfl (setRow_heap _ _ _ _ _ _ HO.out) Tryz.underlying50 rfl (by rw [rowArr_size]; kernel_rfl)) rfl ⟨rfl, Go.Proofs.YtfgaohilpbocbaaGreatDoor.Sha.below_setRow HB7.out (Nat.le_refl _) _⟩

theorem digest_any (a : Option Addr) (cap : Nat) (l : List Nat) (w : World) (hl : l.length ≤ 1000000) (hlc : l.length ≤ cap) (hcm : cap ≤ maxLen) (hb : IsByte l) (hc : BytesAt w a l) (hK : Ks w) (hS : Starts w) :
    Calls Tryz.prog 57 #[.slice a l.length cap] w fun e w' => e = .returned (.agg (rowArr 32 (spV (comp (padN l) ((padN l).length / 64))))) ∧ Below w.heap.size w w' := by
  rcases hc with rfl | ⟨b, off, rfl, hc⟩
  · exact digest_void a cap _ rfl w hcm hK hS
  · exact digest_some b off cap l w hl hlc hcm hb hc hK hS

end Go.Proofs.YtfgaohilpbocbaaGreatDoor.Sha
end
