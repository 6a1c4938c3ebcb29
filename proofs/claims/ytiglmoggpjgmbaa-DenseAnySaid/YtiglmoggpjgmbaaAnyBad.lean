/-
  DenseAny where the question is formed badly.
-/
import Derived.Test.YtiglmoggpjgmbaaAnyApp
namespace Go.Proofs.Ytiglmoggpjgmbaa
open Go.ChangeShapes Go.WideShapes Go.ChangeAt Go.RowKit Go.Joins
set_option linter.unusedVariables false

theorem below_drewN {B : Nat} {a w : World} (h : Below B a w) (n : Nat) : Below B a (w.drewN n) := ⟨h.os, h.tape, h.output, h.size, h.block⟩
/-- The first k rows are short enough, and their rights alike. -/
def Good (rows right : Rws) (n : Int) (k : Nat) : Prop := 0 ≤ n ∧ rows.length = right.length ∧ ∀ j, j < k → ((rows.getD j []).length : Int) ≤ n ∧ (right.getD j []).length = (right.getD 0 []).length
theorem Good.formed {rows right : Rws} {n : Int} (h : Good rows right n rows.length) : formedB rows right n = true := by
  obtain ⟨h0, h1, h2⟩ := h
  obtain ⟨N, rfl⟩ : ∃ N : Nat, n = (N : Int) := ⟨n.toNat, by omega⟩
  rw [formedB_iff]
  refine ⟨h0, ?_, h1.symm, fun r hr => ?_⟩
  · have := longN_le (ls := rows) (m := N) fun x hx => by
      obtain ⟨j, hj, rfl⟩ := List.getElem_of_mem hx
      have := (h2 j hj).1
      rw [getR hj] at this
      omega
    omega
  · obtain ⟨j, hj, rfl⟩ := List.getElem_of_mem hr
    have := (h2 j (by omega)).2
    rw [getR hj] at this
    exact this
theorem Good.succ {rows right : Rws} {n : Int} {k : Nat} (h : Good rows right n k) (h1 : ((rows.getD k []).length : Int) ≤ n) (h2 : (right.getD k []).length = (right.getD 0 []).length) : Good rows right n (k + 1) :=
  ⟨h.1, h.2.1, fun j hj => by
    by_cases e : j = k
    · subst e; exact ⟨h1, h2⟩
    · exact h.2.2 j (by omega)⟩
theorem Good.less {rows right : Rws} {n : Int} {k : Nat} (h : Good rows right n (k + 1)) : Good rows right n k := ⟨h.1, h.2.1, fun j hj => h.2.2 j (by omega)⟩

set_option maxRecDepth 100000 in
set_option maxHeartbeats 4000000 in
theorem denseAny_bad (a ga : Option Addr) (cap gc : Nat) (rows right : Rws) (n : Int) (w : World) (hs : Rs w.heap.size w a cap rows) (hg : Rs w.heap.size w ga gc right) (hn1 : -9223372036854775808 ≤ n) (hn2 : n ≤ 40) (hf1 : fewB rows = true) (hf2 : fewB right = true) (hf : formedB rows right n = false) :
    Calls Try.prog 5 #[.slice a rows.length cap, .slice ga right.length gc, .int .i64 n] w (TrueAnd w) := by
  have hlm := hs.lt
  have hlm2 := hg.lt
  have HS : Hid (∀ w', Below w.heap.size w w' → Rs w.heap.size w' a cap rows) := fun w' hb => hs.keep (Nat.le_refl _) (Keep.of_below hb)
  have HG : Hid (∀ w', Below w.heap.size w w' → Rs w.heap.size w' ga gc right) := fun w' hb => hg.keep (Nat.le_refl _) (Keep.of_below hb)
  have HAW := Lib.hid awake_any
  have HF1 : Hid (∀ w', Below w.heap.size w w' → Calls Try.prog 7 #[.slice a rows.length cap] w' fun e w'' => e = .returned (.bool (fewB rows)) ∧ w' = w'') := fun w' hb => few_any w.heap.size a cap rows w' (HS.out w' hb)
  have HF2 : Hid (∀ w', Below w.heap.size w w' → Calls Try.prog 7 #[.slice ga right.length gc] w' fun e w'' => e = .returned (.bool (fewB right)) ∧ w' = w'') := fun w' hb => few_any w.heap.size ga gc right w' (HG.out w' hb)
  have HSO : Hid (∀ w', Below w.heap.size w w' → Calls Try.prog 14 #[.slice a rows.length cap, .slice ga right.length gc, .int .i64 n] w' fun e w'' => e = .returned (.tuple #[.slice none 0 0, .int .i64 1]) ∧ w' = w'') := fun w' hb => solve_bad w.heap.size a ga cap gc rows right n w' (HS.out w' hb) (HG.out w' hb) hn1 (by omega) hf
  have HNF : Hid (¬ Good rows right n rows.length) := fun h => by have := h.formed; rw [hf] at this; cases this
  rw [hf1] at HF1
  rw [hf2] at HF2
  obtain ⟨hl40, hm40⟩ := fewB_iff.1 hf1
  obtain ⟨hr40, hq40⟩ := fewB_iff.1 hf2
  have hn40 : ¬ (40 : Int) < n := by omega
  have hd40 : decide ((40 : Int) < n) = false := by simpa using hn2
  clear hs hg hf1 hf2 hf hm40 hq40
  go_enter Try.func5, Try.ntmps5
  go_wp2_with fail
  (with_reducible refine (HAW.out _).mono ?_)
  rintro e w1 ⟨rfl, b1⟩
  have HB1 := Lib.hid b1
  clear b1
  go_wp2_with fail
  (with_reducible refine (HF1.out _ HB1.out).mono ?_)
  rintro e w2 ⟨rfl, rfl⟩
  go_wp2_with fail
  (with_reducible refine (HF2.out _ HB1.out).mono ?_)
  rintro e w2 ⟨rfl, rfl⟩
  go_wp2_with fail
  (with_reducible refine (HSO.out _ HB1.out).mono ?_)
  rintro e w2 ⟨rfl, rfl⟩
  clear HF1 HF2 HAW HSO
  go_upto_region 4 with fail
  go_cut [9] (fun s9 wx => ∃ b : Bool, s9 = .bool b ∧ Hid (b = false → Good rows right n 0) ∧ wx = w1)
  case first =>
    by_cases h1 : n < 0
    · have hd : decide (n < 0) = true := by simpa using h1
      go_wp2_with fail
      go_meet
      exact ⟨true, rfl, fun h => (by cases h), rfl⟩
    · have hd : decide (n < 0) = false := by simpa using h1
      by_cases h3 : rows.length = right.length
      · have hq : (((rows.length : Nat) : Int) != ((right.length : Nat) : Int)) = false := by simp; omega
        have HG0 : Hid (Good rows right n 0) := ⟨by omega, h3, fun j hj => by omega⟩
        clear h3
        go_wp2_with fail
        go_meet
        exact ⟨false, rfl, fun _ => HG0.out, rfl⟩
      · have hq : (((rows.length : Nat) : Int) != ((right.length : Nat) : Int)) = true := by simp; omega
        go_wp2_with fail
        go_meet
        exact ⟨true, rfl, fun h => (by cases h), rfl⟩
  case rest =>
    obtain ⟨b0, rfl, HGB, rfl⟩ := hcut
    go_wp2_with fail
    go_loopg [9, 49] rows.length (fun gg v9 i wr => ∃ (k : Nat) (b : Bool), k ≤ rows.length ∧ rows.length - k ≤ gg ∧ i = .int .i64 k ∧ v9 = .bool b ∧ Hid (b = false → Good rows right n k) ∧ Hid (Below w.heap.size w wr))
    case atStart => exact ⟨0, b0, by omega, by omega, rfl, rfl, HGB, HB1.out⟩
    case round =>
      clear HGB
      obtain ⟨k, b, hk, hgg, rfl, rfl, HGK, HB⟩ := hrel
      by_cases hlt : k < rows.length
      · have hltz : (k : Int) < (rows.length : Int) := by omega
        cases b with
        | true =>
          go_wp2_with fail
          go_quiet (fail)
          go_wp2_with fail
          go_roundg (rows.length - (k + 1))
          case measure => omega
          case rel => exact ⟨k + 1, true, by omega, Nat.le_refl _, by first | rfl | go_num | (congr 1; omega), rfl, fun h => (by cases h), below_drewN HB.out _⟩
        | false =>
          obtain ⟨g0, g1, g2⟩ := HGK.out rfl
          have HK2 := Lib.hid (HGK.out rfl)
          have hltr : k < right.length := by omega
          have hpos : 0 < right.length := by omega
          have hltrz : (k : Int) < (right.length : Int) := by omega
          have hposz : (0 : Int) < (right.length : Int) := by omega
          have hk0 : (0 : Int) ≤ (k : Int) := by omega
          obtain ⟨bb, off, rfl, hB, hr⟩ := (HS.out _ HB.out).some hlt
          obtain ⟨ai, ci, hck, hrw⟩ := hr k hlt
          obtain ⟨bg, og, rfl, hBg, hrg⟩ := (HG.out _ HB.out).some hltr
          obtain ⟨a1, c1, hc1, hrw1⟩ := hrg k hltr
          obtain ⟨a0, c0, hc0, hrw0⟩ := hrg 0 hpos
          rw [Nat.add_zero] at hc0
          have hs1 := hrw.sl.lt
          have hs2 := hrw1.sl.lt
          have hs3 := hrw0.sl.lt
          have HX1 : Hid (rows.getD k [] = rows[k]) := getR hlt
          have HX2 : Hid (right.getD k [] = right[k]) := getR hltr
          have HX3 : Hid (right.getD 0 [] = right[0]) := getR hpos
          generalize rows[k] = x at *
          generalize right[k] = y at *
          generalize right[0] = z at *
          clear hr hrw hrg hrw1 hrw0 g1 g2 g0 HGK
          by_cases hbig : n < (x.length : Int)
          · have hdb : decide (n < (x.length : Int)) = true := by simpa using hbig
            go_wp2_with fail
            go_quiet (fail)
            go_wp2_with fail
            go_roundg (rows.length - (k + 1))
            case measure => omega
            case rel => exact ⟨k + 1, true, by omega, Nat.le_refl _, by first | rfl | go_num | (congr 1; omega), rfl, fun h => (by cases h), below_drewN HB.out _⟩
          · have hdb : decide (n < (x.length : Int)) = false := by simpa using hbig
            by_cases he : y.length = z.length
            · have hq : (((y.length : Nat) : Int) != ((z.length : Nat) : Int)) = false := by simp; omega
              have HN : Hid (Good rows right n (k + 1)) := HK2.out.succ (by rw [HX1.out]; omega) (by rw [HX2.out, HX3.out]; exact he)
              clear he
              go_wp2_with fail
              go_quiet (fail)
              go_wp2_with fail
              go_roundg (rows.length - (k + 1))
              case measure => omega
              case rel => exact ⟨k + 1, false, by omega, Nat.le_refl _, by first | rfl | go_num | (congr 1; omega), rfl, fun _ => HN.out, below_drewN HB.out _⟩
            · have hq : (((y.length : Nat) : Int) != ((z.length : Nat) : Int)) = true := by simp; omega
              go_wp2_with fail
              go_quiet (fail)
              go_wp2_with fail
              go_roundg (rows.length - (k + 1))
              case measure => omega
              case rel => exact ⟨k + 1, true, by omega, Nat.le_refl _, by first | rfl | go_num | (congr 1; omega), rfl, fun h => (by cases h), below_drewN HB.out _⟩
      · obtain rfl : k = rows.length := by omega
        have hltz : ¬ (rows.length : Int) < (rows.length : Int) := by omega
        cases b with
        | false => exact absurd (HGK.out rfl) HNF.out
        | true =>
          go_wp2_with fail
          go_ret
          exact ⟨rfl, HB.out⟩
end Go.Proofs.Ytiglmoggpjgmbaa
