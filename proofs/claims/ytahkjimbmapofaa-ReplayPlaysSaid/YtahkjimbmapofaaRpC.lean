/-
  The law ReplayBoards, out of what package replay answers: a board that is scaled.
-/
import Derived.Test.YtahkjimbmapofaaRpB
namespace Go.Proofs.Ytahkjimbmapofaa
open Go.ChangeShapes Go.WideShapes Go.ChangeAt Go.RowKit Go.Joins
set_option linter.unusedVariables false

theorem Rs.up {B C : Nat} {w : World} {a : Option Addr} {cap : Nat} {ls : Rws} (h : Rs B w a cap ls) (k : B ≤ C) : Rs C w a cap ls :=
  ⟨h.len, h.most, h.none, h.here.imp id fun ⟨b, off, e, hb, hr⟩ => ⟨b, off, e, by omega, fun i hi => by
    obtain ⟨a', c', h1, h2⟩ := hr i hi
    exact ⟨a', c', h1, ⟨h2.sl, fun hl p hp => (h2.tag hl p hp).imp (fun h => by omega) id⟩⟩⟩⟩
theorem Rs.later {W w : World} {a : Option Addr} {cap : Nat} {ls : Rws} (h : Rs W.heap.size W a cap ls) (k : Below W.heap.size W w) : Rs w.heap.size w a cap ls :=
  (h.keep (Nat.le_refl _) (Keep.of_below k)).up k.size
/-- A row of them. -/
theorem rs_row {w : World} {a : Option Addr} {cap : Nat} {ls : Rws} (h : Rs w.heap.size w a cap ls) {i : Nat} (hi : i < ls.length) : ∃ b off, a = some ⟨b, off, none⟩ ∧ b < w.heap.size ∧ ∃ ai ci, w.cell? ⟨b, off + i, none⟩ = some (.slice ai ls[i].length ci) ∧ Sl w ai ci ls[i] := by
  obtain ⟨b, off, e, hb, hr⟩ := h.some hi
  obtain ⟨ai, ci, h1, h2⟩ := hr i hi
  exact ⟨b, off, e, hb, ai, ci, h1, h2.sl⟩
theorem zero_row (w : World) (n : Nat) (hn : n ≤ 1000000) : Sl (w.alloc (.cells (rowArr n zV) 5)) (some ⟨w.heap.size, 0, none⟩) n (List.replicate n 0) := by
  have hr := Row.new_whole w (rowArr n zV) 5 (vOf (List.replicate n 0)) w.heap.size n rfl (by
    apply Array.ext_getElem?
    intro i
    by_cases hi : i < n
    · simp [rowArr, hi, zV, vOf, byteV, List.getD]
    · simp [rowArr, hi])
  exact hr.sl (by simp) (fun x hx => by rw [List.eq_of_mem_replicate hx]; omega) (by unfold maxLen; omega)
theorem plus_zeros (l : List Nat) (c : Nat) : plusN (List.replicate l.length 0) l c = scaleN l c := by
  apply List.ext_getElem
  · simp [plusN, scaleN]
  · intro i h1 h2
    have hi : i < l.length := by simpa [scaleN] using h2
    rw [plusN_get _ _ _ i h1 (by simp; exact hi) hi, scaleN_get _ _ i h2 hi]
    simp
theorem conv_n {w : World} {a : Option Addr} {n cap : Nat} {l : List Nat} (h : Sl w a cap l) (hn : l.length = n) : (convert 34 9 (.slice a n cap)).run Try.prog w = .ok (.string (strOf l)) w := by
  subst hn; exact conv_sl w a cap l h

set_option maxRecDepth 100000 in
set_option maxHeartbeats 2000000 in
theorem boards_few {Bd : Nat → World → Nat → Rws → Prop} (HC : RepC Bd) (a : Option Addr) (cap : Nat) (rows : Rws) (t f : Int) (c : Nat) (sc : Bool) (w : World) (hs : Rs w.heap.size w a cap rows) (hF : fewC rows = false) :
    Calls Try.prog 4 #[.slice a rows.length cap, .int .i64 t, .int .i64 f, .int .u8 (c : Int), .bool sc] w (TrueAnd w) := by
  have HA : Hid (∀ w, Calls Try.prog 5 #[] w fun e w' => e = .returned (.bool true) ∧ Below w.heap.size w w') := fun w => awake12_any HC w
  have HS := Lib.hid hs
  have HFW : Hid (∀ w', Below w.heap.size w w' → Calls Try.prog 6 #[.slice a rows.length cap] w' fun e w'' => e = .returned (.bool false) ∧ w' = w'') := fun w' k => by
    have h := few12_any _ a cap rows w' (HS.out.later k)
    rw [hF] at h; exact h
  clear HC hs hF
  go_enter Try.func4, Try.ntmps4
  go_wp2_with fail
  (with_reducible refine (HA.out w).mono ?_)
  rintro e w1 ⟨rfl, b1⟩
  have HB1 := Lib.hid b1
  have HF1 := Lib.hid (HFW.out w1 b1)
  clear b1 HFW
  go_wp2_with fail
  (with_reducible refine HF1.out.mono ?_)
  rintro e w2 ⟨rfl, rfl⟩
  clear HF1
  go_wp2_with fail
  (with_reducible refine (HA.out w1).mono ?_)
  rintro e w3 ⟨rfl, b3⟩
  have HB3 := Lib.hid (HB1.out.trans (b3.mono HB1.out.size))
  clear b3 HA
  go_wp2_with fail
  go_ret
  exact ⟨rfl, HB3.out⟩

set_option maxRecDepth 100000 in
set_option maxHeartbeats 2000000 in
theorem boards_odd {Bd : Nat → World → Nat → Rws → Prop} (HC : RepC Bd) (a : Option Addr) (cap : Nat) (rows : Rws) (t f : Int) (c : Nat) (sc : Bool) (w : World) (hs : Rs w.heap.size w a cap rows) (hF : fewC rows = true) (hA : alikeB rows = false) :
    Calls Try.prog 4 #[.slice a rows.length cap, .int .i64 t, .int .i64 f, .int .u8 (c : Int), .bool sc] w (TrueAnd w) := by
  have HA : Hid (Calls Try.prog 5 #[] w fun e w' => e = .returned (.bool true) ∧ Below w.heap.size w w') := awake12_any HC w
  have HS := Lib.hid hs
  have HFW : Hid (∀ w', Below w.heap.size w w' → Calls Try.prog 6 #[.slice a rows.length cap] w' fun e w'' => e = .returned (.bool true) ∧ w' = w'') := fun w' k => by
    have h := few12_any _ a cap rows w' (HS.out.later k)
    rw [hF] at h; exact h
  have HAL : Hid (∀ w', Below w.heap.size w w' → Calls Try.prog 8 #[.slice a rows.length cap] w' fun e w'' => e = .returned (.bool false) ∧ Below w'.heap.size w' w'') := fun w' k => by
    have h := alike_any _ a cap rows w' (Nat.le_refl _) (HS.out.later k)
    rw [hA] at h; exact h
  have HNB : Hid (∀ w', Below w.heap.size w w' → Calls Try.prog 10 #[.slice a rows.length cap] w' fun e w'' => e = .returned (.tuple #[.pointer none, .int .i64 1]) ∧ Below w'.heap.size w' w'') := fun w' k => HC.newBad a cap rows w' (HS.out.later k) hF hA
  clear HC hs hF hA
  go_enter Try.func4, Try.ntmps4
  go_wp2_with fail
  (with_reducible refine HA.out.mono ?_)
  rintro e w1 ⟨rfl, b1⟩
  have HB1 := Lib.hid b1
  have HF1 := Lib.hid (HFW.out w1 b1)
  have HN1 := Lib.hid (HNB.out w1 b1)
  clear b1 HFW HA HNB
  go_wp2_with fail
  (with_reducible refine HF1.out.mono ?_)
  rintro e w2 ⟨rfl, rfl⟩
  clear HF1
  go_wp2_with fail
  (with_reducible refine HN1.out.mono ?_)
  rintro e w3 ⟨rfl, b3⟩
  have HB3 := Lib.hid (HB1.out.trans (b3.mono HB1.out.size))
  have HA3 := Lib.hid (HAL.out w3 HB3.out)
  clear b3 HN1 HAL
  go_wp2_with fail
  (with_reducible refine HA3.out.mono ?_)
  rintro e w4 ⟨rfl, b4⟩
  have HB4 := Lib.hid (HB3.out.trans (b4.mono HB3.out.size))
  clear b4 HA3
  go_wp2_with fail
  go_ret
  exact ⟨rfl, HB4.out⟩
end Go.Proofs.Ytahkjimbmapofaa
