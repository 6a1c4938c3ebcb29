/-
  Layer 13's laws, out of what package codec answers: awake; nothing at all.
-/
import Derived.Test.YtdfgdpgffblbpaaCdC
import Derived.Lib.SlBytesConst
namespace Go.Proofs.Ytdfgdpgffblbpaa
open Go.ChangeShapes Go.WideShapes Go.ChangeAt Go.RowKit Go.Joins
set_option linter.unusedVariables false

/-- One byte that a call makes, marked. -/
theorem one_byte (w : World) (n : Nat) (hn : n < 256) : Sl (w.alloc (.cells #[.int .u8 (n : Int)] 5 (1, 2))) (some ⟨w.heap.size, 0, none⟩) 1 [n] := by
  have h0 : (w.alloc (.cells #[.int .u8 (n : Int)] 5 (1, 2))).heap[w.heap.size]? = some (.cells #[.int .u8 (n : Int)] 5 (1, 2)) := heap_alloc_last w _
  refine ⟨fun m hm => ?_, by simp, by unfold maxLen; omega, fun e => (by cases e), .inr ⟨w.heap.size, 0, rfl, fun j hj => ?_⟩⟩
  · simp at hm; omega
  · have hj0 : j = 0 := by simpa using hj
    subst hj0
    rw [cell_of_row _ _ _ _ _ _ h0]; rfl

set_option maxRecDepth 100000 in
set_option maxHeartbeats 1000000 in
theorem awake13_any {Od : (Nat → Prop) → World → Nat → Option (List Nat) → Nat → Prop} (HC : OutC Od) (w : World) : Calls Try.prog 6 #[] w fun e w' => e = .returned (.bool true) ∧ Below w.heap.size w w' := by
  have hal : Below w.heap.size w (w.alloc (.cells outZ 27)) := (Below.refl _ _).alloc (Nat.le_refl _) _
  have HT := Lib.hid (HC.text _ _ _ _ _ [97, 98] (HC.zero w) (by omega) (fun n hn => by simp at hn; omega) (by simp))
  have HE : Hid (∀ X w1 q, Od X w1 w.heap.size (some [2, 97, 98]) q → q ≤ 40000 → Calls Try.prog 12 #[.pointer (some ⟨w.heap.size, 0, none⟩)] w1 fun e w' => ∃ a c, e = .returned (.tuple #[.slice a 3 c, .int .i64 0]) ∧ Sl w' a c [2, 97, 98] ∧ Below w1.heap.size w1 w') := fun X w1 q h hq => HC.endOk X w1 _ _ q h hq
  have HB0 := Lib.hid hal
  have HST : Hid (∀ (w : World) (a : Option Addr) (cap : Nat), Sl w a cap [2, 97, 98] → (convert 28 9 (.slice a 3 cap)).run Try.prog w = .ok (.string { data := #[2, 97, 98] }) w) := fun w a cap h => conv_sl w a cap _ h
  unfold outZ at HT HB0
  clear HC hal
  go_enter Try.func6, Try.ntmps6
  go_wp2_with fail
  refine HT.out.mono ?_
  rintro e w1 ⟨rfl, X, hod, hX, hfr⟩
  have hb1 := HB0.out.trans (hfr.below (B := w.heap.size) (by simp) fun k hk e => by omega)
  have HB1 := Lib.hid hb1
  have HE1 := Lib.hid (HE.out X w1 _ hod (by simp))
  clear hod hX hfr hb1 HT HE HB0
  go_wp2_with fail
  (with_reducible refine HE1.out.mono ?_)
  rintro e w2 ⟨sa, sc, rfl, hsl, b2⟩
  have hcv := HST.out w2 sa sc hsl
  have HB2 := Lib.hid (HB1.out.trans (b2.mono HB1.out.size))
  clear HE1 hsl b2 HB1 HST
  go_wp2_with fail
  go_ret
  exact ⟨rfl, HB2.out⟩

set_option maxRecDepth 100000 in
set_option maxHeartbeats 2000000 in
theorem codecNil_walk {Od : (Nat → Prop) → World → Nat → Option (List Nat) → Nat → Prop} (HC : OutC Od) {Id : Nat → (Nat → Prop) → World → Nat → Option (List Nat) → Prop} (HI : InC Id) (v n : Int) (hv : i64R v) (hn : i64R n) (w : World) :
    Calls Try.prog 5 #[.int .i64 v, .int .i64 n] w (TrueAnd w) := by
  have HA := Lib.hid (awake13_any HC w)
  have HO := Lib.hid HC
  have HJ := Lib.hid HI
  have HV := Lib.hid hv
  have HN := Lib.hid hn
  have hv1 := hv.1
  have hv2 := hv.2
  have hn1 := hn.1
  have hn2 := hn.2
  clear HC HI hv hn
  go_enter Try.func5, Try.ntmps5
  go_wp2_with fail
  (with_reducible refine HA.out.mono ?_)
  rintro e w1 ⟨rfl, b1⟩
  have HB1 := Lib.hid b1
  have H1 := Lib.hid (HO.out.nilN w1 v n HV.out HN.out)
  clear b1 HA
  go_wp2_with fail
  (with_reducible refine H1.out.mono ?_)
  rintro e w2 ⟨rfl, b2⟩
  have HB2 := Lib.hid (HB1.out.trans (b2.mono HB1.out.size))
  have H2 := Lib.hid (HO.out.nilText w2)
  clear b2 H1 HB1
  go_wp2_with fail
  refine H2.out.mono ?_
  rintro e w3 ⟨rfl, b3⟩
  have HB3 := Lib.hid (HB2.out.trans (b3.mono HB2.out.size))
  have hcs := Go.Lib.run_convert_bytes_const (P := Try.prog) w3 28 5 #[.int .u8 98] 1 1 Try.underlying28 Try.underlying5
  clear b3 H2 HB2
  go_wp2_with fail
  have HB4 : Hid (Below w.heap.size w (w3.alloc (.cells #[.int .u8 98] 5 (1, 2)))) := HB3.out.trans (((Below.refl _ _).alloc (Nat.le_refl _) _).mono HB3.out.size)
  have H4 := Lib.hid (HO.out.nilRaw (w3.alloc (.cells #[.int .u8 98] 5 (1, 2))) _ 1 (one_byte w3 98 (by omega)))
  clear HB3
  refine H4.out.mono ?_
  rintro e w4 ⟨rfl, b4⟩
  have HB5 := Lib.hid (HB4.out.trans (b4.mono HB4.out.size))
  have H5 := Lib.hid (HO.out.nilEnd w4)
  clear b4 H4 HB4
  go_wp2_with fail
  (with_reducible refine H5.out.mono ?_)
  rintro e w5 ⟨a5, c5, rfl, b5⟩
  have HB6 := Lib.hid (HB5.out.trans (b5.mono HB5.out.size))
  have H6 := Lib.hid (HJ.out.nilN w5 n HN.out)
  clear b5 H5 HB5
  go_wp2_with fail
  (with_reducible refine H6.out.mono ?_)
  rintro e w6 ⟨rfl, b6⟩
  have HB7 := Lib.hid (HB6.out.trans (b6.mono HB6.out.size))
  have H7 := Lib.hid (HJ.out.nilText w6)
  clear b6 H6 HB6
  go_wp2_with fail
  (with_reducible refine H7.out.mono ?_)
  rintro e w7 ⟨rfl, b7⟩
  have HB8 := Lib.hid (HB7.out.trans (b7.mono HB7.out.size))
  have H8 := Lib.hid (HJ.out.nilRaw w7 n HN.out)
  have hse : strOf [] = { data := #[] } := rfl
  rw [hse]
  clear b7 H7 HB7 hse
  go_wp2_with fail
  (with_reducible refine H8.out.mono ?_)
  rintro e w8 ⟨a8, c8, rfl, b8⟩
  have HB9 := Lib.hid (HB8.out.trans (b8.mono HB8.out.size))
  have H9 := Lib.hid (HJ.out.nilLeft w8)
  clear b8 H8 HB8
  go_wp2_with fail
  (with_reducible refine H9.out.mono ?_)
  rintro e w9 ⟨rfl, b9⟩
  have HBa := Lib.hid (HB9.out.trans (b9.mono HB9.out.size))
  have Ha := Lib.hid (HJ.out.nilBad w9)
  clear b9 H9 HB9
  go_wp2_with fail
  (with_reducible refine Ha.out.mono ?_)
  rintro e wa ⟨rfl, ba⟩
  have HBb := Lib.hid (HBa.out.trans (ba.mono HBa.out.size))
  have Hb := Lib.hid (HJ.out.nilDone wa)
  clear ba Ha HBa
  go_wp2_with fail
  (with_reducible refine Hb.out.mono ?_)
  rintro e wb ⟨rfl, bb⟩
  have HBc := Lib.hid (HBb.out.trans (bb.mono HBb.out.size))
  clear bb Hb HBb
  go_wp2_with fail
  go_ret
  exact ⟨rfl, HBc.out⟩
end Go.Proofs.Ytdfgdpgffblbpaa
