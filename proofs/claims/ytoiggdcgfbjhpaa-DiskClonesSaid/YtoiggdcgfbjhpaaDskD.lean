/-
  Names that are ones.
-/
import Derived.Test.YtoiggdcgfbjhpaaDskC
namespace Go.Proofs.Ytoiggdcgfbjhpaa
open Go.ChangeShapes Go.WideShapes Go.ChangeAt Go.RowKit Go.Joins
set_option linter.unusedVariables false

/-- A name of 1 to 60 bytes, each from ! to ~. -/
def rightB (s : ByteArray) : Bool := decide (1 ≤ s.size) && decide (s.size ≤ 60) && (List.range s.size).all fun i => decide (33 ≤ (s.data.toList.getD i 0).toNat) && decide ((s.data.toList.getD i 0).toNat ≤ 126)
theorem rightB_iff {s : ByteArray} : rightB s = true ↔ 1 ≤ s.size ∧ s.size ≤ 60 ∧ ∀ i, i < s.size → 33 ≤ (s.data.toList.getD i 0).toNat ∧ (s.data.toList.getD i 0).toNat ≤ 126 := by
  simp [rightB, and_assoc]

theorem byte_at {s : ByteArray} {k : Nat} (h : k < s.size) : (s.data.toList.getD k 0).toNat = s[k].toNat := by
  rw [List.getD_eq_getElem?_getD, List.getElem?_eq_getElem (show k < s.data.toList.length from by simpa using h)]
  rfl

set_option maxHeartbeats 1000000 in
theorem right_any (s : ByteArray) (hs : s.size ≤ 9223372036854775807) (w : World) : Calls Try.prog 36 #[.string s] w fun e w' => e = .returned (.bool (rightB s)) ∧ w = w' := by
  by_cases h1 : s.size < 1
  · have HF : Hid (rightB s = false) := by
      show _ = _
      rw [Bool.eq_false_iff]; intro h; have := (rightB_iff.1 h).1; omega
    have hd : decide ((s.size : Int) < 1) = true := by simp; omega
    go_enter Try.func36, Try.ntmps36
    go_wp2_with fail
    go_ret
    rw [HF.out]
    exact ⟨rfl, rfl⟩
  · have hd : decide ((s.size : Int) < 1) = false := by simp; omega
    by_cases h2 : 60 < s.size
    · have HF : Hid (rightB s = false) := by
        show _ = _
        rw [Bool.eq_false_iff]; intro h; have := (rightB_iff.1 h).2.1; omega
      have hd2 : decide ((60 : Int) < (s.size : Int)) = true := by simp; omega
      go_enter Try.func36, Try.ntmps36
      go_wp2_with fail
      go_ret
      rw [HF.out]
      exact ⟨rfl, rfl⟩
    · have hd2 : decide ((60 : Int) < (s.size : Int)) = false := by simp; omega
      have hs60 : (s.size : Int) ≤ 60 := by omega
      go_enter Try.func36, Try.ntmps36
      go_wp2_with fail
      go_loop [14] (fun i => ∃ k : Nat, k ≤ s.size ∧ i = .int .i64 k ∧ Hid (∀ j, j < k → 33 ≤ (s.data.toList.getD j 0).toNat ∧ (s.data.toList.getD j 0).toNat ≤ 126)) (fun i => s.size - (intOf i).toNat)
      case atStart => exact ⟨0, by omega, rfl, fun j h => by omega⟩
      case round =>
        obtain ⟨k, hk, rfl, HT⟩ := hrel
        by_cases hlt : k < s.size
        · have hltz : (k : Int) < (s.size : Int) := by omega
          have hk0 : (0 : Int) ≤ (k : Int) := by omega
          have HG : Hid ((s.data.toList.getD k 0).toNat = s[k].toNat) := byte_at hlt
          by_cases h3 : s[k].toNat < 33
          · have HF : Hid (rightB s = false) := by
              show _ = _
              rw [Bool.eq_false_iff]; intro h; have := ((rightB_iff.1 h).2.2 k hlt).1; rw [HG.out] at this; omega
            have hd3 : decide ((s[k].toNat : Int) < 33) = true := by simp; omega
            go_wp2_with fail
            go_ret
            rw [HF.out]
            exact ⟨rfl, rfl⟩
          · have hd3 : decide ((s[k].toNat : Int) < 33) = false := by simp; omega
            by_cases h4 : 126 < s[k].toNat
            · have HF : Hid (rightB s = false) := by
                show _ = _
                rw [Bool.eq_false_iff]; intro h; have := ((rightB_iff.1 h).2.2 k hlt).2; rw [HG.out] at this; omega
              have hd4 : decide ((126 : Int) < (s[k].toNat : Int)) = true := by simp; omega
              go_wp2_with fail
              go_ret
              rw [HF.out]
              exact ⟨rfl, rfl⟩
            · have hd4 : decide ((126 : Int) < (s[k].toNat : Int)) = false := by simp; omega
              have HN : Hid (∀ j, j < k + 1 → 33 ≤ (s.data.toList.getD j 0).toNat ∧ (s.data.toList.getD j 0).toNat ≤ 126) := fun j hj => by
                by_cases e : j = k
                · subst e; rw [HG.out]; omega
                · exact HT.out j (by omega)
              go_wp2_with fail
              go_round
              case rel => exact ⟨k + 1, by omega, by go_num, HN⟩
              case measure => simp [intOf]; omega
        · obtain rfl : k = s.size := by omega
          have hltz : ¬ (s.size : Int) < (s.size : Int) := by omega
          have HF : Hid (rightB s = true) := by
            show _ = _
            exact rightB_iff.2 ⟨by omega, by omega, HT.out⟩
          go_wp2_with fail
          go_ret
          rw [HF.out]
          exact ⟨rfl, rfl⟩
end Go.Proofs.Ytoiggdcgfbjhpaa
