/-
  The law DiskSafe, walked: all ways.
-/
import Derived.Test.YtoiggdcgfbjhpaaDskLs
namespace Go.Proofs.Ytoiggdcgfbjhpaa
open Go.ChangeShapes Go.WideShapes Go.ChangeAt Go.RowKit Go.Joins
set_option linter.unusedVariables false

theorem low_drewN {W w : World} (h : Below W.heap.size W w) (n : Nat) : Below W.heap.size W (w.drewN n) := ⟨h.os, h.tape, h.output, h.size, h.block⟩
set_option maxRecDepth 100000 in
set_option maxHeartbeats 1000000 in
theorem safe_walk {W : World} (cap : Int) (sa : Option Addr) (sc : Nat) (l : List ActV) (hl : Acts W sa sc l) (n1 n2 : Int) (hn1 : -9223372036854775808 ≤ n1 ∧ n1 ≤ 9223372036854775807) (hn2 : -9223372036854775808 ≤ n2 ∧ n2 ≤ 9223372036854775807) (ka : Option Addr) (kc : Nat) (ks : List Int) (hk : Ks W ka kc ks) :
    Calls Try.prog 4 #[.int .i64 cap, .slice sa l.length sc, .int .i64 n1, .int .i64 n2, .slice ka ks.length kc] W fun e w' => e = .returned (.bool true) ∧ Below W.heap.size W w' := by
  have hll := hl.lt
  have hkl : ks.length ≤ 9223372036854775807 := by have h1 := hk.len; have h2 := hk.most; unfold maxLen at h2; omega
  cases hf : fewB 60 l with
  | false =>
    have HL := Lib.hid hl
    have HFB := Lib.hid hf
    clear hl hk hf
    go_enter Try.func4, Try.ntmps4
    go_wp2_with fail
    (with_reducible refine (awake_any _).mono ?_)
    rintro e w1 ⟨rfl, b1⟩
    have hfew := few60 HL.out w1 b1
    rw [HFB.out] at hfew
    have HB1 := Lib.hid b1
    clear b1
    go_wp2_with fail
    (with_reducible refine hfew.mono ?_)
    rintro e w2 ⟨rfl, nd, hw2⟩
    have HB2 : Hid (Below W.heap.size W w2) := by rw [hw2]; exact low_drewN HB1.out nd
    clear hw2 hfew
    go_wp2_with fail
    (with_reducible refine (awake_any _).mono ?_)
    rintro e w3 ⟨rfl, b3⟩
    have HB3 : Hid (Below W.heap.size W w3) := HB2.out.trans (b3.mono HB2.out.size)
    clear b3
    go_wp2_with fail
    go_ret
    exact ⟨rfl, HB3.out⟩
  | true =>
    by_cases h100 : 100 < ks.length
    · have HL := Lib.hid hl
      have HFB := Lib.hid hf
      have hkz : (100 : Int) < (ks.length : Int) := by omega
      clear hl hk hf
      go_enter Try.func4, Try.ntmps4
      go_wp2_with fail
      (with_reducible refine (awake_any _).mono ?_)
      rintro e w1 ⟨rfl, b1⟩
      have hfew := few60 HL.out w1 b1
      rw [HFB.out] at hfew
      have HB1 := Lib.hid b1
      clear b1
      go_wp2_with fail
      (with_reducible refine hfew.mono ?_)
      rintro e w2 ⟨rfl, nd, hw2⟩
      have HB2 : Hid (Below W.heap.size W w2) := by rw [hw2]; exact low_drewN HB1.out nd
      clear hw2 hfew
      go_wp2_with fail
      (with_reducible refine (awake_any _).mono ?_)
      rintro e w3 ⟨rfl, b3⟩
      have HB3 : Hid (Below W.heap.size W w3) := HB2.out.trans (b3.mono HB2.out.size)
      clear b3
      go_wp2_with fail
      go_ret
      exact ⟨rfl, HB3.out⟩
    · by_cases hc : 0 ≤ cap ∧ cap ≤ 1048576
      · exact safe_good (w := W) cap hc.1 hc.2 sa sc l hl n1 n2 hn1 hn2 ka kc ks hk hf h100
      · have HL := Lib.hid hl
        have HFB := Lib.hid hf
        have hkz : ¬ (100 : Int) < (ks.length : Int) := by omega
        have hnb := fun w => new_bad cap (by omega) w
        clear hl hk hf hc
        go_enter Try.func4, Try.ntmps4
        go_wp2_with fail
        (with_reducible refine (awake_any _).mono ?_)
        rintro e w1 ⟨rfl, b1⟩
        have hfew := few60 HL.out w1 b1
        rw [HFB.out] at hfew
        have HB1 := Lib.hid b1
        clear b1
        go_wp2_with fail
        (with_reducible refine hfew.mono ?_)
        rintro e w2 ⟨rfl, nd, hw2⟩
        have HB2 : Hid (Below W.heap.size W w2) := by rw [hw2]; exact low_drewN HB1.out nd
        clear hw2 hfew
        go_wp2_with fail
        (with_reducible refine (hnb _).mono ?_)
        rintro e w3 ⟨rfl, rfl⟩
        go_wp2_with fail
        go_ret
        exact ⟨rfl, HB2.out⟩
end Go.Proofs.Ytoiggdcgfbjhpaa
