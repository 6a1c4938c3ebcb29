/-
  DenseAny, walked.
-/
import Derived.Test.YtiglmoggpjgmbaaAnyGood
namespace Go.Proofs.Ytiglmoggpjgmbaa
open Go.ChangeShapes Go.WideShapes Go.ChangeAt Go.RowKit Go.Joins
set_option linter.unusedVariables false

set_option maxRecDepth 100000 in
set_option maxHeartbeats 4000000 in
theorem denseAny_walk (a ga : Option Addr) (cap gc : Nat) (rows right : Rws) (n : Int) (w : World) (hs : Rs w.heap.size w a cap rows) (hg : Rs w.heap.size w ga gc right) (hn1 : -9223372036854775808 ≤ n) (hn2 : n ≤ 9223372036854775807) :
    Calls Try.prog 5 #[.slice a rows.length cap, .slice ga right.length gc, .int .i64 n] w (TrueAnd w) := by
  by_cases hall : fewB rows = true ∧ fewB right = true ∧ n ≤ 40
  · obtain ⟨h1, h2, h3⟩ := hall
    cases hf : formedB rows right n with
    | false => exact denseAny_bad a ga cap gc rows right n w hs hg hn1 h3 h1 h2 hf
    | true =>
      obtain ⟨N, rfl⟩ : ∃ N : Nat, n = (N : Int) := ⟨n.toNat, by have := (formedB_iff.1 hf).1; omega⟩
      exact denseAny_good a ga cap gc rows right N w hs hg (by omega) h1 h2 hf
  have hlm := hs.lt
  have hlm2 := hg.lt
  have HS : Hid (∀ w', Below w.heap.size w w' → Rs w.heap.size w' a cap rows) := fun w' hb => hs.keep (Nat.le_refl _) (Keep.of_below hb)
  have HG : Hid (∀ w', Below w.heap.size w w' → Rs w.heap.size w' ga gc right) := fun w' hb => hg.keep (Nat.le_refl _) (Keep.of_below hb)
  have HAW := Lib.hid awake_any
  have HF1 : Hid (∀ w', Below w.heap.size w w' → Calls Try.prog 7 #[.slice a rows.length cap] w' fun e w'' => e = .returned (.bool (fewB rows)) ∧ w' = w'') := fun w' hb => few_any w.heap.size a cap rows w' (HS.out w' hb)
  have HF2 : Hid (∀ w', Below w.heap.size w w' → Calls Try.prog 7 #[.slice ga right.length gc] w' fun e w'' => e = .returned (.bool (fewB right)) ∧ w' = w'') := fun w' hb => few_any w.heap.size ga gc right w' (HG.out w' hb)
  clear hs hg
  cases hf1 : fewB rows with
  | false =>
    rw [hf1] at HF1
    clear hall
    go_enter Try.func5, Try.ntmps5
    go_wp2_with fail
    (with_reducible refine (HAW.out _).mono ?_)
    rintro e w1 ⟨rfl, b1⟩
    have HB1 := Lib.hid b1
    clear b1
    go_wp2_with fail
    (with_reducible refine (HF1.out _ HB1.out).mono ?_)
    rintro e w2 ⟨rfl, rfl⟩
    go_wp2_with fail
    (with_reducible refine (HAW.out _).mono ?_)
    rintro e w3 ⟨rfl, b3⟩
    have HB3 : Hid (Below w.heap.size w w3) := HB1.out.trans (b3.mono HB1.out.size)
    clear b3
    go_wp2_with fail
    go_ret
    exact ⟨rfl, HB3.out⟩
  | true =>
    rw [hf1] at HF1
    cases hf2 : fewB right with
    | false =>
      rw [hf2] at HF2
      clear hall
      go_enter Try.func5, Try.ntmps5
      go_wp2_with fail
      (with_reducible refine (HAW.out _).mono ?_)
      rintro e w1 ⟨rfl, b1⟩
      have HB1 := Lib.hid b1
      clear b1
      go_wp2_with fail
      (with_reducible refine (HF1.out _ HB1.out).mono ?_)
      rintro e w2 ⟨rfl, rfl⟩
      go_wp2_with fail
      (with_reducible refine (HF2.out _ HB1.out).mono ?_)
      rintro e w2 ⟨rfl, rfl⟩
      go_wp2_with fail
      (with_reducible refine (HAW.out _).mono ?_)
      rintro e w3 ⟨rfl, b3⟩
      have HB3 : Hid (Below w.heap.size w w3) := HB1.out.trans (b3.mono HB1.out.size)
      clear b3
      go_wp2_with fail
      go_ret
      exact ⟨rfl, HB3.out⟩
    | true =>
      rw [hf2] at HF2
      have hn40 : (40 : Int) < n := by
        rcases Int.lt_or_le 40 n with h | h
        · exact h
        · exact absurd ⟨hf1, hf2, h⟩ hall
      have hd40 : decide ((40 : Int) < n) = true := by simpa using hn40
      clear hall hf1 hf2
      go_enter Try.func5, Try.ntmps5
      go_wp2_with fail
      (with_reducible refine (HAW.out _).mono ?_)
      rintro e w1 ⟨rfl, b1⟩
      have HB1 := Lib.hid b1
      clear b1
      go_wp2_with fail
      (with_reducible refine (HF1.out _ HB1.out).mono ?_)
      rintro e w2 ⟨rfl, rfl⟩
      go_wp2_with fail
      (with_reducible refine (HF2.out _ HB1.out).mono ?_)
      rintro e w2 ⟨rfl, rfl⟩
      go_wp2_with fail
      (with_reducible refine (HAW.out _).mono ?_)
      rintro e w3 ⟨rfl, b3⟩
      have HB3 : Hid (Below w.heap.size w w3) := HB1.out.trans (b3.mono HB1.out.size)
      clear b3
      go_wp2_with fail
      go_ret
      exact ⟨rfl, HB3.out⟩
end Go.Proofs.Ytiglmoggpjgmbaa
