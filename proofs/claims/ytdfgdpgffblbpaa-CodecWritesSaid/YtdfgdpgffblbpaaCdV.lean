/-
  slices.Reverse over slices of bytes; bytes.Join of nothing between, as the shelf has it.
-/
import Derived.Test.YtdfgdpgffblbpaaCdO
import Derived.Test.YtdfgdpgffblbpaaJoinLay
import Derived.BigRegion
namespace Go.Proofs.Ytdfgdpgffblbpaa
open Go.ChangeShapes Go.WideShapes Go.ChangeAt Go.RowKit Go.Joins
set_option linter.unusedVariables false

theorem Fr.drewN {X : Nat → Prop} {a w : World} (h : Fr X a w) : Fr X a w.drew := ⟨h.os, h.tape, h.output, h.size, h.block⟩
/-- Cells turned round, the first k and the last k of n. -/
def turnV (f : Nat → Value) (n k j : Nat) : Value := if j < k ∨ n ≤ j + k then f (n - 1 - j) else f j
set_option maxRecDepth 100000 in
set_option maxHeartbeats 4000000 in
theorem reverse_any (g cap n : Nat) (A : Nat → Option Addr) (M C : Nat → Nat) (w : World) (hR : Row w g 28 cap n (fun j => .slice (A j) (M j) (C j))) (hn : n ≤ cap) (hc : cap ≤ maxLen) (h6 : n ≤ 1000000) :
    Calls Try.prog 25 #[.slice (some ⟨g, 0, none⟩) n cap] w fun e w' => e = .returned (.tuple #[]) ∧ Row w' g 28 cap n (fun j => .slice (A (n - 1 - j)) (M (n - 1 - j)) (C (n - 1 - j))) ∧ Fr (fun k => k = g) w w' := by
  have mixed : Try.prog.follows .mixedOrders = true := by kernel_rfl
  have HR0 : Hid (Row w g 28 cap n (turnV (fun j => .slice (A j) (M j) (C j)) n 0)) := hR.mono (Nat.le_refl _) fun j hj => by unfold turnV; rw [if_neg (by omega)]
  have HF0 : Hid (Fr (fun k => k = g) w w) := Fr.refl _ _
  clear hR
  go_enter Try.func25, Try.ntmps25
  go_wp2_with fail
  go_loopw [2, 3] (fun i j wr => ∃ k : Nat, k ≤ n ∧ 2 * k ≤ n + 1 ∧ i = .int .i64 (k : Int) ∧ j = .int .i64 ((n : Int) - 1 - (k : Int)) ∧ Hid (Row wr g 28 cap n (turnV (fun j => .slice (A j) (M j) (C j)) n k)) ∧ Hid (Fr (fun k => k = g) w wr)) (fun i _ _ => n - (intOf i).toNat)
  case atStart => exact ⟨0, by omega, by omega, rfl, by go_num, HR0, HF0⟩
  case round =>
    obtain ⟨k, hk, hk2, rfl, rfl, HR, HF⟩ := hrel
    clear HR0 HF0
    by_cases hlt : (k : Int) < (n : Int) - 1 - (k : Int)
    · obtain ⟨m, hm⟩ : ∃ m : Nat, (n : Int) - 1 - (k : Int) = (m : Int) := ⟨n - 1 - k, by omega⟩
      rw [hm] at hlt ⊢
      have hkm : k < m := by omega
      have hmn : m < n := by omega
      have hkn : k < n := by omega
      have hkz : (k : Int) < (n : Int) := by omega
      have hmz : (m : Int) < (n : Int) := by omega
      have ck := HR.out.cell k hkn
      have cm := HR.out.cell m hmn
      have fk := HR.out.loose k
      have fm := HR.out.loose m
      have e1 : turnV (fun j => .slice (A j) (M j) (C j)) n k k = .slice (A k) (M k) (C k) := by unfold turnV; rw [if_neg (by omega)]
      have e2 : turnV (fun j => .slice (A j) (M j) (C j)) n k m = .slice (A m) (M m) (C m) := by unfold turnV; rw [if_neg (by omega)]
      rw [e1] at ck
      rw [e2] at cm
      have HRN : Hid (Row ((wr.setCell ⟨g, k, none⟩ (.slice (A m) (M m) (C m))).setCell ⟨g, m, none⟩ (.slice (A k) (M k) (C k))) g 28 cap n (turnV (fun j => .slice (A j) (M j) (C j)) n (k + 1))) :=
        ((HR.out.upd k (by omega) _).upd m (by omega) _).mono (Nat.le_refl _) fun j hj => by
          have hmk : m = n - 1 - k := by omega
          by_cases e : j = m
          · subst e
            simp only [if_true]
            unfold turnV
            rw [if_pos (by omega), show n - 1 - j = k by omega]
          · rw [if_neg e]
            by_cases e' : j = k
            · subst e'
              simp only [if_true]
              unfold turnV
              rw [if_pos (by omega), hmk]
            · rw [if_neg e']
              unfold turnV
              by_cases h : j < k ∨ n ≤ j + k
              · rw [if_pos h, if_pos (by omega)]
              · rw [if_neg h, if_neg (by omega)]
      have HFN : Hid (Fr (fun k => k = g) w ((wr.setCell ⟨g, k, none⟩ (.slice (A m) (M m) (C m))).setCell ⟨g, m, none⟩ (.slice (A k) (M k) (C k)))) := (HF.out.set (p := ⟨g, k, none⟩) (fun _ => rfl) _).set (p := ⟨g, m, none⟩) (fun _ => rfl) _
      have h2k : 2 * (k + 1) ≤ n + 1 := by omega
      have HM := Lib.hid hm
      clear hm e1 e2
      generalize A k = ak at *
      generalize M k = mk at *
      generalize C k = ck' at *
      generalize A m = am at *
      generalize M m = mm at *
      generalize C m = cm' at *
      have hdd : decide ((k : Int) < (m : Int)) = true := decide_eq_true hlt
      go_wp2_with fail
      go_big_region_o
      go_wp2_with fail
      go_roundw
      case rel => exact ⟨k + 1, by omega, h2k, by go_num, by have := HM.out; first | (congr 1; omega) | go_num, HRN, HFN.out.drewN⟩
      case measure => simp [intOf]; omega
    · have hdd : decide ((k : Int) < (n : Int) - 1 - (k : Int)) = false := decide_eq_false hlt
      have HE : Hid (Row wr g 28 cap n (fun j => .slice (A (n - 1 - j)) (M (n - 1 - j)) (C (n - 1 - j)))) := HR.out.mono (Nat.le_refl _) fun j hj => by
        unfold turnV
        by_cases h : j < k ∨ n ≤ j + k
        · rw [if_pos h]
        · rw [if_neg h, show n - 1 - j = j by omega]
      go_wp2_with fail
      go_end0
      exact ⟨rfl, HE.out, HF.out⟩
set_option maxRecDepth 100000 in
theorem reverse_none (w : World) : Calls Try.prog 25 #[.slice none 0 0] w fun e w' => e = .returned (.tuple #[]) ∧ w = w' := by
  go_enter Try.func25, Try.ntmps25
  go_wp2_with fail
  go_loopw [2, 3] (fun i j wr => i = .int .i64 0 ∧ j = .int .i64 (-1) ∧ Hid (w = wr)) (fun i _ _ => 0)
  case atStart => exact ⟨rfl, rfl, rfl⟩
  case round =>
    obtain ⟨rfl, rfl, HW⟩ := hrel
    go_wp2_with fail
    go_end0
    exact ⟨rfl, HW.out⟩
end Go.Proofs.Ytdfgdpgffblbpaa
