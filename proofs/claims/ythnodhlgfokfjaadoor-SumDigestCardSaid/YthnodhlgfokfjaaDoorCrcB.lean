/-
  The law SumCRC, walked: any bytes' CRC is the document's.
-/
import Derived.Test.YthnodhlgfokfjaaDoorCrcA
import Derived.Lib.SlBytesConst
namespace Go.Proofs.YthnodhlgfokfjaaDoor
open Go.ChangeShapes Go.WideShapes Go.ChangeAt Go.RowKit
set_option linter.unusedVariables false

theorem ref_none (a : Option Addr) (cap : Nat) (w : World) :
    Calls Tryd.prog 8 #[.slice a 0 cap] w fun e w' => e = .returned (.int .u32 ((crcN [] : Nat) : Int)) ∧ w = w' := by
  go_enter Tryd.func8, Tryd.ntmps8
  go_wp2
  go_loop [3, 9] (fun s i => i = .int .i64 0 ∧ s = .int .u64 4294967295) (fun _ i => 0)
  case atStart => exact ⟨rfl, rfl⟩
  case round =>
    obtain ⟨rfl, rfl⟩ := hrel
    go_wp2
    go_ret
    exact ⟨by rfl, rfl⟩

/-- A slice of bytes: nothing to read, or cells from a place on. -/
def BytesAt (w : World) (a : Option Addr) (l : List Nat) : Prop := l = [] ∨ ∃ b off, a = some ⟨b, off, none⟩ ∧ BytesIn w b off l

theorem Fours.lt {w : World} (h : Fours w) : 1 < w.heap.size := World.block_lt_of_cell? w ⟨1, 0, none⟩ (h 0 (by omega))

theorem Fours.below {w w' : World} {B : Nat} (h : Fours w) (hB : 1 < B) (b : Below B w w') : Fours w' := fun k hk => by
  rw [b.cell (p := ⟨1, k, none⟩) hB]; exact h k hk

theorem BytesIn.below {w w' : World} {B b off : Nat} {l : List Nat} (h : BytesIn w b off l) (hB : w.heap.size ≤ B) (hb : Below B w w') : BytesIn w' b off l := fun i hi => by
  rw [hb.cell (p := ⟨b, off + i, none⟩) (Nat.lt_of_lt_of_le (World.block_lt_of_cell? w _ (h i hi)) hB)]; exact h i hi

theorem BytesAt.below {w w' : World} {B : Nat} {a : Option Addr} {l : List Nat} (h : BytesAt w a l) (hB : w.heap.size ≤ B) (hb : Below B w w') : BytesAt w' a l := by
  rcases h with h | ⟨b, off, e, h⟩
  · exact .inl h
  · exact .inr ⟨b, off, e, h.below hB hb⟩

theorem crc_any (a : Option Addr) (cap : Nat) (l : List Nat) (w : World) (hl : l.length ≤ maxLen) (hb : IsByte l) (hc : BytesAt w a l) (hF : Fours w) :
    Calls Tryd.prog 7 #[.slice a l.length cap] w fun e w' => e = .returned (.int .u32 ((crcN l : Nat) : Int)) ∧ w = w' := by
  rcases hc with rfl | ⟨b, off, rfl, hc⟩
  · exact crc_none a cap w
  · exact crc_some b off cap l w hl hb hc hF

theorem ref_any (a : Option Addr) (cap : Nat) (l : List Nat) (w : World) (hl : l.length ≤ maxLen) (hb : IsByte l) (hc : BytesAt w a l) :
    Calls Tryd.prog 8 #[.slice a l.length cap] w fun e w' => e = .returned (.int .u32 ((crcN l : Nat) : Int)) ∧ w = w' := by
  rcases hc with rfl | ⟨b, off, rfl, hc⟩
  · exact ref_none a cap w
  · exact ref_some b off cap l w hl hb hc

theorem cell_new (w : World) (C : Array Value) (e : TypeId) (f : Nat × Nat) (k : Nat) : (w.alloc (.cells C e f)).cell? ⟨w.heap.size, k, none⟩ = C[k]? := by
  have : (w.alloc (.cells C e f)).heap[w.heap.size]? = some (.cells C e f) := by
    show (w.heap.push (.cells C e f))[w.heap.size]? = _
    simp
  simp only [World.cell?, this]
  rfl

theorem bytesIn_new (w : World) (l : List Nat) (C : Array Value) (e : TypeId) (f : Nat × Nat) (h : C = (l.map fun c : Nat => Value.int .u8 (c : Int)).toArray) : BytesIn (w.alloc (.cells C e f)) w.heap.size 0 l := fun i hi => by
  rw [Nat.zero_add, cell_new, h]; simp [hi]

theorem awake_any (w : World) (hF : Fours w) : Calls Tryd.prog 6 #[] w fun e w' => e = .returned (.bool true) ∧ Below w.heap.size w w' := by
  have hlt := hF.lt
  have HF := Lib.hid hF
  clear hF
  go_enter Tryd.func6, Tryd.ntmps6
  have hcv := fun (w : World) (C : Array Value) (n c : Nat) => Lib.run_convert_bytes_const (P := Tryd.prog) w 22 5 C n c Tryd.underlying22 Tryd.underlying5
  go_wp2_with fail
  clear hcv
  refine (crc_some _ 0 9 [49, 50, 51, 52, 53, 54, 55, 56, 57] _ (by decide) (by unfold IsByte; decide) (bytesIn_new w _ _ _ _ rfl) (HF.out.below hlt ((Below.refl _ _).alloc (Nat.le_refl _) _))).mono ?_
  rintro e w' ⟨rfl, rfl⟩
  rw [crc_known]
  go_wp2
  go_ret
  exact ⟨rfl, (Below.refl _ _).alloc (Nat.le_refl _) _⟩

set_option maxHeartbeats 400000 in
theorem sumCRC_walk (a : Option Addr) (cap : Nat) (l : List Nat) (w : World) (hl : l.length ≤ maxLen) (hb : IsByte l) (hc : BytesAt w a l) (hF : Fours w) :
    Calls Tryd.prog 3 #[.slice a l.length cap] w fun e w' => e = .returned (.bool true) ∧ Below w.heap.size w w' := by
  have hlm : l.length ≤ 9223372036854775807 := by unfold maxLen at hl; omega
  have HL := Lib.hid hl
  have HB := Lib.hid hb
  have HC := Lib.hid hc
  have HF := Lib.hid hF
  have hlt := hF.lt
  clear hl hb hc hF
  by_cases hlen : 20000 < l.length
  · go_enter Tryd.func3, Tryd.ntmps3
    go_wp2_with fail
    refine (awake_any _ HF.out).mono ?_
    rintro e w1 ⟨rfl, b1⟩
    go_wp2_with fail
    refine (awake_any _ (HF.out.below hlt b1)).mono ?_
    rintro e w2 ⟨rfl, b2⟩
    go_wp2_with fail
    go_ret
    exact ⟨rfl, b1.trans (b2.mono b1.size)⟩
  · go_enter Tryd.func3, Tryd.ntmps3
    go_wp2_with fail
    refine (awake_any _ HF.out).mono ?_
    rintro e w1 ⟨rfl, b1⟩
    go_wp2_with fail
    refine (crc_any _ _ _ _ HL.out HB.out (HC.out.below (Nat.le_refl _) b1) (HF.out.below hlt b1)).mono ?_
    rintro e w2 ⟨rfl, rfl⟩
    go_wp2_with fail
    refine (ref_any _ _ _ _ HL.out HB.out (HC.out.below (Nat.le_refl _) b1)).mono ?_
    rintro e w2 ⟨rfl, rfl⟩
    go_wp2_with fail
    go_ret
    exact ⟨by simp, b1⟩

end Go.Proofs.YthnodhlgfokfjaaDoor
