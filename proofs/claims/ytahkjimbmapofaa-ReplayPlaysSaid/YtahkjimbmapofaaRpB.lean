/-
  The law ReplayBoards, out of what package replay answers: awake; what is refused ahead of a board.
-/
import Derived.Test.YtahkjimbmapofaaRpA
namespace Go.Proofs.Ytahkjimbmapofaa
open Go.ChangeShapes Go.WideShapes Go.ChangeAt Go.RowKit Go.Joins
set_option linter.unusedVariables false

/-- The one row that awake makes. -/
theorem rs_five (w : World) : Rs ((w.alloc (.cells #[.int .u8 5] 5)).alloc (.cells #[.slice (some ⟨w.heap.size, 0, none⟩) 1 1] 34)).heap.size ((w.alloc (.cells #[.int .u8 5] 5)).alloc (.cells #[.slice (some ⟨w.heap.size, 0, none⟩) 1 1] 34)) (some ⟨w.heap.size + 1, 0, none⟩) 1 [[5]] := by
  have h0 : ((w.alloc (.cells #[.int .u8 5] 5)).alloc (.cells #[.slice (some ⟨w.heap.size, 0, none⟩) 1 1] 34)).heap[w.heap.size]? = some (.cells #[.int .u8 5] 5 (0, 0)) := (Below.heap_alloc _ _ _ (by simp)).trans (heap_alloc_last w _)
  have h1 : ((w.alloc (.cells #[.int .u8 5] 5)).alloc (.cells #[.slice (some ⟨w.heap.size, 0, none⟩) 1 1] 34)).heap[w.heap.size + 1]? = some (.cells #[.slice (some ⟨w.heap.size, 0, none⟩) 1 1] 34 (0, 0)) := by
    have h := heap_alloc_last (w.alloc (.cells #[.int .u8 5] 5)) (.cells #[.slice (some ⟨w.heap.size, 0, none⟩) 1 1] 34)
    rwa [World.size_alloc] at h
  refine ⟨by simp, by unfold maxLen; omega, fun e => (by cases e), .inr ⟨w.heap.size + 1, 0, rfl, by simp, fun i hi => ?_⟩⟩
  have hi0 : i = 0 := by simpa using hi
  subst hi0
  refine ⟨some ⟨w.heap.size, 0, none⟩, 1, by rw [cell_of_block h1]; rfl, ⟨⟨fun n hn => ?_, by simp, by unfold maxLen; omega, fun e => (by cases e), .inr ⟨w.heap.size, 0, rfl, fun j hj => ?_⟩⟩, fun _ p hp => ?_⟩⟩
  · simp at hn; omega
  · have hj0 : j = 0 := by simpa using hj
    subst hj0
    rw [cell_of_block h0]; rfl
  · cases hp
    exact .inl (by simp only [World.size_alloc]; omega)

set_option maxRecDepth 100000 in
set_option maxHeartbeats 1000000 in
theorem awake12_any {Bd : Nat → World → Nat → Rws → Prop} (HC : RepC Bd) (w : World) : Calls Try.prog 5 #[] w fun e w' => e = .returned (.bool true) ∧ Below w.heap.size w w' := by
  have hB2 : Below w.heap.size w ((w.alloc (.cells #[.int .u8 5] 5)).alloc (.cells #[.slice (some ⟨w.heap.size, 0, none⟩) 1 1] 34)) := ((Below.refl _ w).alloc (Nat.le_refl _) _).alloc (by simp) _
  have HN : Hid (Calls Try.prog 10 #[.slice (some ⟨w.heap.size + 1, 0, none⟩) 1 1] ((w.alloc (.cells #[.int .u8 5] 5)).alloc (.cells #[.slice (some ⟨w.heap.size, 0, none⟩) 1 1] 34)) fun e w' => ∃ b, e = .returned (.tuple #[.pointer (some ⟨b, 0, none⟩), .int .i64 0]) ∧ Bd ((w.alloc (.cells #[.int .u8 5] 5)).alloc (.cells #[.slice (some ⟨w.heap.size, 0, none⟩) 1 1] 34)).heap.size w' b [[5]] ∧ Below ((w.alloc (.cells #[.int .u8 5] 5)).alloc (.cells #[.slice (some ⟨w.heap.size, 0, none⟩) 1 1] 34)).heap.size ((w.alloc (.cells #[.int .u8 5] 5)).alloc (.cells #[.slice (some ⟨w.heap.size, 0, none⟩) 1 1] 34)) w') := HC.new (some ⟨w.heap.size + 1, 0, none⟩) 1 [[5]] _ (rs_five w) (by decide) (by decide)
  have HB2 := Lib.hid hB2
  have hsz2 : w.heap.size ≤ ((w.alloc (.cells #[.int .u8 5] 5)).alloc (.cells #[.slice (some ⟨w.heap.size, 0, none⟩) 1 1] 34)).heap.size := hB2.size
  have HSZ := Lib.hid hsz2
  have HSL : Hid (∀ B w b, Bd B w b [[5]] → Calls Try.prog 13 #[.pointer (some ⟨b, 0, none⟩), .int .i64 0] w fun e w' => ∃ sa sc, e = .returned (.slice sa 1 sc) ∧ Sl w' sa sc [5] ∧ Below w.heap.size w w') := fun B w b h => HC.slot B w b [[5]] 0 (by decide) h (by decide)
  have HST : Hid (∀ (w : World) (a : Option Addr) (cap : Nat), Sl w a cap [5] → (convert 34 9 (.slice a 1 cap)).run Try.prog w = .ok (.string { data := #[5] }) w) := fun w a cap h => conv_sl w a cap [5] h
  clear HC hB2 hsz2
  go_enter Try.func5, Try.ntmps5
  go_wp2_with fail
  (with_reducible refine HN.out.mono ?_)
  rintro e w1 ⟨b, rfl, hbd, b1⟩
  have HS := Lib.hid (HSL.out _ _ _ hbd)
  have HB1 := Lib.hid (HB2.out.trans (b1.mono HSZ.out))
  clear hbd b1 HN HSL HB2 HSZ
  go_wp2_with fail
  (with_reducible refine HS.out.mono ?_)
  rintro e w2 ⟨sa, sc, rfl, hsl, b2⟩
  have hcv := HST.out w2 sa sc hsl
  have HB3 := Lib.hid (HB1.out.trans (b2.mono HB1.out.size))
  clear HS hsl b2 HB1 HST
  go_wp2_with fail
  go_ret
  exact ⟨rfl, HB3.out⟩
end Go.Proofs.Ytahkjimbmapofaa
