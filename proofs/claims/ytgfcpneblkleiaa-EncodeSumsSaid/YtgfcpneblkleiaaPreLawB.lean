/-
  The law's Sources and Wrong; what package precode refuses; PrecodeParities, walked.
-/
import Derived.Test.YtgfcpneblkleiaaPreLawA
import Derived.Test.YtgfcpneblkleiaaPrePar
namespace Go.Proofs.Ytgfcpneblkleiaa
open Go.ChangeShapes Go.WideShapes Go.ChangeAt Go.RowKit Go.Joins
set_option linter.unusedVariables false

theorem ret_bool {a b : Bool} (h : a = b) : Ending.returned (.bool a) = .returned (.bool b) := by rw [h]
def srcB (ls : Rws) : Bool := decide (ls.length ≤ 70) && ls.all fun x => decide (x.length ≤ 300)
theorem srcB_iff {ls : Rws} : srcB ls = true ↔ ls.length ≤ 70 ∧ ∀ x ∈ ls, x.length ≤ 300 := by simp [srcB]

set_option maxHeartbeats 400000 in
theorem sources_any (B : Nat) (a : Option Addr) (cap : Nat) (ls : Rws) (w : World) (hs : Rs B w a cap ls) :
    Calls Try.prog 6 #[.slice a ls.length cap] w fun e w' => e = .returned (.bool (srcB ls)) ∧ w = w' := by
  have HS := Lib.hid hs
  have hlm := hs.lt
  clear hs
  go_enter Try.func6, Try.ntmps6
  go_wp2_with fail
  go_loop [6] (fun i => ∃ k : Nat, k ≤ ls.length ∧ i = .int .i64 k ∧ Hid (∀ j (h : j < ls.length), j < k → j < 70 ∧ ls[j].length ≤ 300)) (fun i => ls.length - (intOf i).toNat)
  case atStart => exact ⟨0, by omega, rfl, fun j _ hj => by omega⟩
  case round =>
    obtain ⟨k, hk, rfl, HT⟩ := hrel
    by_cases hlt : k < ls.length
    · obtain ⟨b, off, rfl, hB, hr⟩ := HS.out.some hlt
      obtain ⟨ai, ci, hck, hrw⟩ := hr k hlt
      have hsl := hrw.sl.lt
      by_cases h40 : 70 ≤ k
      · have HF : Hid (srcB ls = false) := by
          show _ = _
          rw [Bool.eq_false_iff]
          intro h
          have := (srcB_iff.1 h).1
          omega
        have hd : decide ((70 : Int) ≤ (k : Int)) = true := by simp; omega
        clear hr hrw
        go_wp2_with fail
        go_ret
        exact ⟨ret_bool HF.out.symm, rfl⟩
      · have hd : decide ((70 : Int) ≤ (k : Int)) = false := by simp; omega
        have hd2 : ¬ (70 : Int) ≤ (k : Int) := by omega
        by_cases hbig : 300 < ls[k].length
        · have HF : Hid (srcB ls = false) := by
            show _ = _
            rw [Bool.eq_false_iff]
            intro h
            have := (srcB_iff.1 h).2 _ (List.getElem_mem hlt)
            omega
          generalize ls[k] = x at *
          have hd3 : (300 : Int) < (x.length : Int) := by omega
          clear hr hrw
          go_wp2_with fail
          go_ret
          exact ⟨ret_bool HF.out.symm, rfl⟩
        · have HX : Hid (∀ j (h : j < ls.length), j < k + 1 → j < 70 ∧ ls[j].length ≤ 300) := fun j h hj => by
            by_cases e : j = k
            · subst e; exact ⟨by omega, by omega⟩
            · exact HT.out j h (by omega)
          generalize ls[k] = x at *
          have hd3 : ¬ (300 : Int) < (x.length : Int) := by omega
          clear hr hrw
          go_wp2_with fail
          go_round
          case rel => exact ⟨k + 1, by omega, by go_num, HX⟩
          case measure => simp [intOf]; omega
    · obtain rfl : k = ls.length := by omega
      have HF : Hid (srcB ls = true) := by
        show _ = _
        rw [srcB_iff]
        refine ⟨?_, fun x hx => ?_⟩
        · rcases Nat.lt_or_ge 70 ls.length with h | h
          · have := (HT.out 70 h h).1; omega
          · exact h
        · obtain ⟨i, hi, rfl⟩ := List.getElem_of_mem hx
          exact (HT.out i hi hi).2
      go_wp2_with fail
      go_ret
      exact ⟨ret_bool HF.out.symm, rfl⟩


set_option maxHeartbeats 400000 in
theorem wrong_in (B : Nat) (a : Option Addr) (cap : Nat) (ls : Rws) (m : Nat) (w : World) (hs : Rs B w a cap ls) (h1 : 1 ≤ ls.length) (h64 : ls.length ≤ 64) (hm1 : 1 ≤ m) (hm2 : m ≤ 256) :
    Calls Try.prog 8 #[.slice a ls.length cap, .int .i64 (m : Int)] w fun e w' => e = .returned (.int .i64 (if goodB ls m = true then 0 else 3)) ∧ w = w' := by
  have HS := Lib.hid hs
  have d1 : ¬ ((m : Int) < 1) := by omega
  have d2 : ¬ ((256 : Int) < (m : Int)) := by omega
  have d3 : ¬ ((ls.length : Int) < 1) := by omega
  have d4 : ¬ ((64 : Int) < (ls.length : Int)) := by omega
  clear hs
  go_enter Try.func8, Try.ntmps8
  go_wp2_with fail
  go_loop [24] (fun i => ∃ k : Nat, k ≤ ls.length ∧ i = .int .i64 k ∧ Hid (∀ j (h : j < ls.length), j < k → ls[j].length ≤ m)) (fun i => ls.length - (intOf i).toNat)
  case atStart => exact ⟨0, by omega, rfl, fun j _ hj => by omega⟩
  case round =>
    obtain ⟨k, hk, rfl, HT⟩ := hrel
    by_cases hlt : k < ls.length
    · obtain ⟨b, off, rfl, hB, hr⟩ := HS.out.some hlt
      obtain ⟨ai, ci, hck, hrw⟩ := hr k hlt
      have hsl := hrw.sl.lt
      have i1 : (0 : Int) ≤ (k : Int) := by omega
      have i2 : (k : Int) < (ls.length : Int) := by omega
      by_cases hbig : m < ls[k].length
      · have HF : Hid (¬ goodB ls m = true) := fun h => by
          have := goodB_iff.1 h _ (List.getElem_mem hlt)
          omega
        generalize ls[k] = x at *
        have hd3 : (m : Int) < (x.length : Int) := by omega
        clear hr hrw
        go_wp2_with fail
        go_ret
        exact ⟨by first | rfl | (rw [if_neg HF.out]; rfl), rfl⟩
      · have HX : Hid (∀ j (h : j < ls.length), j < k + 1 → ls[j].length ≤ m) := fun j h hj => by
          by_cases e : j = k
          · subst e; omega
          · exact HT.out j h (by omega)
        generalize ls[k] = x at *
        have hd3 : ¬ (m : Int) < (x.length : Int) := by omega
        clear hr hrw
        go_wp2_with fail
        go_round
        case rel => exact ⟨k + 1, by omega, by go_num, HX⟩
        case measure => simp [intOf]; omega
    · obtain rfl : k = ls.length := by omega
      have HF : Hid (goodB ls m = true) := goodB_iff.2 fun x hx => by
        obtain ⟨i, hi, rfl⟩ := List.getElem_of_mem hx
        exact HT.out i hi hi
      go_wp2_with fail
      go_ret
      exact ⟨by first | rfl | (rw [if_pos HF.out]; rfl), rfl⟩

/-- What is refused for its size or its number. -/
theorem wrong_out (a : Option Addr) (cap n : Nat) (hn : n ≤ 1000) (m : Int) (q : Int) (h : ((m < 1 ∨ 256 < m) ∧ q = 1) ∨ (1 ≤ m ∧ m ≤ 256 ∧ (n < 1 ∨ 64 < n) ∧ q = 5)) (w : World) :
    Calls Try.prog 8 #[.slice a n cap, .int .i64 m] w fun e w' => e = .returned (.int .i64 q) ∧ w = w' := by
  rcases h with ⟨h | h, rfl⟩ | ⟨h1, h2, h | h, rfl⟩
  · go_enter Try.func8, Try.ntmps8
    go_wp2
    go_ret
    exact ⟨rfl, rfl⟩
  · have d : ¬ m < 1 := by omega
    go_enter Try.func8, Try.ntmps8
    go_wp2
    go_ret
    exact ⟨rfl, rfl⟩
  · have d1 : ¬ m < 1 := by omega
    have d2 : ¬ 256 < m := by omega
    have d3 : (n : Int) < 1 := by omega
    go_enter Try.func8, Try.ntmps8
    go_wp2
    go_ret
    exact ⟨rfl, rfl⟩
  · have d1 : ¬ m < 1 := by omega
    have d2 : ¬ 256 < m := by omega
    have d3 : ¬ (n : Int) < 1 := by omega
    have d4 : (64 : Int) < (n : Int) := by omega
    go_enter Try.func8, Try.ntmps8
    go_wp2
    go_ret
    exact ⟨rfl, rfl⟩
end Go.Proofs.Ytgfcpneblkleiaa
