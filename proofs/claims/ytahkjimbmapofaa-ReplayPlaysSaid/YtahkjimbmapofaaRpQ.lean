/-
  The law ReplayPlays, out of what package replay answers: what is let go.
-/
import Derived.Test.YtahkjimbmapofaaRpP
namespace Go.Proofs.Ytahkjimbmapofaa
open Go.ChangeShapes Go.WideShapes Go.ChangeAt Go.RowKit Go.Joins
set_option linter.unusedVariables false

set_option maxRecDepth 100000 in
set_option maxHeartbeats 4000000 in
theorem plays_out {Bd : Nat → World → Nat → Rws → Prop} (HC : RepC Bd) (da : Option Addr) (dc : Nat) (D : Dk) (wa : Option Addr) (wc : Nat) (Wh : List Int) (a : Option Addr) (cap : Nat) (rows : Rws) (w : World) (hD : Dri w da dc D) (hW : Is w wa wc Wh) (hs : Rs w.heap.size w a cap rows)
    (hout : fewC rows = false ∨ 200 < D.length ∨ 100 < Wh.length) :
    Calls Try.prog 3 #[.agg #[.slice da D.length dc, .slice wa Wh.length wc], .slice a rows.length cap] w (TrueAnd w) := by
  have HA : Hid (∀ w, Calls Try.prog 5 #[] w fun e w' => e = .returned (.bool true) ∧ Below w.heap.size w w') := fun w => awake12_any HC w
  have HS := Lib.hid hs
  have hB0 : Below w.heap.size w (w.alloc (.cells #[.slice da D.length dc, .slice wa Wh.length wc] 25)) := (Below.refl _ _).alloc (Nat.le_refl _) _
  have hbx : (w.alloc (.cells #[.slice da D.length dc, .slice wa Wh.length wc] 25)).heap[w.heap.size]? = some (.cells #[.slice da D.length dc, .slice wa Wh.length wc] 25 (0, 0)) := heap_alloc_last w _
  have hsz0 : w.heap.size < (w.alloc (.cells #[.slice da D.length dc, .slice wa Wh.length wc] 25)).heap.size := by simp
  have HFW : Hid (∀ w', Below w.heap.size w w' → Calls Try.prog 6 #[.slice a rows.length cap] w' fun e w'' => e = .returned (.bool (fewC rows)) ∧ w' = w'') := fun w' k => few12_any _ a cap rows w' (HS.out.later k)
  have HB0 := Lib.hid hB0
  have HBX := Lib.hid hbx
  have hD1 := hD.len
  have hD2 := hD.most
  have hW1 := hW.len
  have hW2 := hW.most
  unfold maxLen at hD2 hW2
  clear HC hs hB0 hbx
  go_enter Try.func3, Try.ntmps3
  go_wp2_with fail
  obtain ⟨W0, hW0⟩ : ∃ W0, W0 = w.alloc (.cells #[.slice da D.length dc, .slice wa Wh.length wc] 25) := ⟨_, rfl⟩
  rw [← hW0] at HB0 HBX hsz0 ⊢
  clear hW0
  (with_reducible refine (HA.out W0).mono ?_)
  rintro e w1 ⟨rfl, b1⟩
  have hb1 := (b1.block _ hsz0).trans HBX.out
  have c0 : w1.cell? ⟨w.heap.size, 0, none⟩ = some (.slice da D.length dc) := by rw [cell_of_block hb1]; rfl
  have c1 : w1.cell? ⟨w.heap.size, 1, none⟩ = some (.slice wa Wh.length wc) := by rw [cell_of_block hb1]; rfl
  have HB1 := Lib.hid (HB0.out.trans (b1.mono HB0.out.size))
  have HF1 := Lib.hid (HFW.out w1 HB1.out)
  clear b1 HFW hb1 HBX HB0 hsz0
  go_wp2_with fail
  (with_reducible refine HF1.out.mono ?_)
  rintro e w2 ⟨rfl, rfl⟩
  clear HF1
  by_cases hF : fewC rows = true
  · rw [hF]
    by_cases hd : 200 < D.length
    · have hdz : (200 : Int) < (D.length : Int) := by omega
      have hdb : decide ((200 : Int) < (D.length : Int)) = true := decide_eq_true hdz
      clear hout hF
      go_wp2_with fail
      (with_reducible refine (HA.out w1).mono ?_)
      rintro e w3 ⟨rfl, b3⟩
      have HB3 := Lib.hid (HB1.out.trans (b3.mono HB1.out.size))
      clear b3 HA
      go_wp2_with fail
      go_ret
      exact ⟨rfl, HB3.out⟩
    · have hw100 : 100 < Wh.length := by
        rcases hout with h | h | h
        · rw [hF] at h; cases h
        · exact absurd h hd
        · exact h
      have hdz : ¬ (200 : Int) < (D.length : Int) := by omega
      have hdb : decide ((200 : Int) < (D.length : Int)) = false := decide_eq_false hdz
      have hwz : (100 : Int) < (Wh.length : Int) := by omega
      have hwb : decide ((100 : Int) < (Wh.length : Int)) = true := decide_eq_true hwz
      clear hout hF
      go_wp2_with fail
      (with_reducible refine (HA.out w1).mono ?_)
      rintro e w3 ⟨rfl, b3⟩
      have HB3 := Lib.hid (HB1.out.trans (b3.mono HB1.out.size))
      clear b3 HA
      go_wp2_with fail
      go_ret
      exact ⟨rfl, HB3.out⟩
  · rw [Bool.not_eq_true] at hF
    rw [hF]
    clear hout hF
    go_wp2_with fail
    (with_reducible refine (HA.out w1).mono ?_)
    rintro e w3 ⟨rfl, b3⟩
    have HB3 := Lib.hid (HB1.out.trans (b3.mono HB1.out.size))
    clear b3 HA
    go_wp2_with fail
    go_ret
    exact ⟨rfl, HB3.out⟩
end Go.Proofs.Ytahkjimbmapofaa
