/-
  The law DiskClones, walked: all ways.
-/
import Derived.Test.YtoiggdcgfbjhpaaDskLc
namespace Go.Proofs.Ytoiggdcgfbjhpaa
open Go.ChangeShapes Go.WideShapes Go.ChangeAt Go.RowKit Go.Joins
set_option linter.unusedVariables false

set_option maxRecDepth 100000 in
set_option maxHeartbeats 1000000 in
theorem clones_walk {W : World} (cap : Int) (sa : Option Addr) (sc : Nat) (l : List ActV) (hl : Acts W sa sc l) (ma : Option Addr) (mc : Nat) (m : List ActV) (hm : Acts W ma mc m) :
    Calls Try.prog 3 #[.int .i64 cap, .slice sa l.length sc, .slice ma m.length mc] W fun e w' => e = .returned (.bool true) ∧ Below W.heap.size W w' := by
  have hll := hl.lt
  have hml := hm.lt
  cases hf : fewB 60 l with
  | false =>
    have HL := Lib.hid hl
    have HFB := Lib.hid hf
    clear hl hm hf
    go_enter Try.func3, Try.ntmps3
    go_wp2_with fail
    (with_reducible refine (awake_any _).mono ?_)
    rintro e w1 ⟨rfl, b1⟩
    have hfew := few60 HL.out w1 b1
    rw [HFB.out] at hfew
    have HB1 := Lib.hid b1
    clear b1
    go_wp2_with fail
    (with_reducible refine hfew.mono ?_)
    rintro e w2 ⟨rfl, nd, hw2⟩
    have HB2 : Hid (Below W.heap.size W w2) := by rw [hw2]; exact low_drewN HB1.out nd
    clear hw2 hfew
    go_wp2_with fail
    (with_reducible refine (awake_any _).mono ?_)
    rintro e w3 ⟨rfl, b3⟩
    have HB3 : Hid (Below W.heap.size W w3) := HB2.out.trans (b3.mono HB2.out.size)
    clear b3
    go_wp2_with fail
    go_ret
    exact ⟨rfl, HB3.out⟩
  | true =>
    cases hf2 : fewB 60 m with
    | false =>
      have HL := Lib.hid hl
      have HM0 := Lib.hid hm
      have HFB := Lib.hid hf
      have HFB2 := Lib.hid hf2
      clear hl hm hf hf2
      go_enter Try.func3, Try.ntmps3
      go_wp2_with fail
      (with_reducible refine (awake_any _).mono ?_)
      rintro e w1 ⟨rfl, b1⟩
      have hfew := few60 HL.out w1 b1
      rw [HFB.out] at hfew
      have HB1 := Lib.hid b1
      clear b1
      go_wp2_with fail
      (with_reducible refine hfew.mono ?_)
      rintro e w2 ⟨rfl, nd, hw2⟩
      have HB2 : Hid (Below W.heap.size W w2) := by rw [hw2]; exact low_drewN HB1.out nd
      clear hw2 hfew
      have hfew := few60 HM0.out w2 HB2.out
      rw [HFB2.out] at hfew
      go_wp2_with fail
      (with_reducible refine hfew.mono ?_)
      rintro e w3 ⟨rfl, nd2, hw3⟩
      have HB3 : Hid (Below W.heap.size W w3) := by rw [hw3]; exact low_drewN HB2.out nd2
      clear hw3 hfew
      go_wp2_with fail
      (with_reducible refine (awake_any _).mono ?_)
      rintro e w4 ⟨rfl, b4⟩
      have HB4 : Hid (Below W.heap.size W w4) := HB3.out.trans (b4.mono HB3.out.size)
      clear b4
      go_wp2_with fail
      go_ret
      exact ⟨rfl, HB4.out⟩
    | true =>
      by_cases hc : 0 ≤ cap ∧ cap ≤ 1048576
      · exact clones_good (w := W) cap hc.1 hc.2 sa sc l hl ma mc m hm hf hf2
      · have HL := Lib.hid hl
        have HM0 := Lib.hid hm
        have HFB := Lib.hid hf
        have HFB2 := Lib.hid hf2
        have hnb := fun w => new_bad cap (by omega) w
        clear hl hm hf hf2 hc
        go_enter Try.func3, Try.ntmps3
        go_wp2_with fail
        (with_reducible refine (awake_any _).mono ?_)
        rintro e w1 ⟨rfl, b1⟩
        have hfew := few60 HL.out w1 b1
        rw [HFB.out] at hfew
        have HB1 := Lib.hid b1
        clear b1
        go_wp2_with fail
        (with_reducible refine hfew.mono ?_)
        rintro e w2 ⟨rfl, nd, hw2⟩
        have HB2 : Hid (Below W.heap.size W w2) := by rw [hw2]; exact low_drewN HB1.out nd
        clear hw2 hfew
        have hfew := few60 HM0.out w2 HB2.out
        rw [HFB2.out] at hfew
        go_wp2_with fail
        (with_reducible refine hfew.mono ?_)
        rintro e w3 ⟨rfl, nd2, hw3⟩
        have HB3 : Hid (Below W.heap.size W w3) := by rw [hw3]; exact low_drewN HB2.out nd2
        clear hw3 hfew
        go_wp2_with fail
        (with_reducible refine (hnb _).mono ?_)
        rintro e w4 ⟨rfl, rfl⟩
        go_wp2_with fail
        go_ret
        exact ⟨rfl, HB3.out⟩
end Go.Proofs.Ytoiggdcgfbjhpaa
