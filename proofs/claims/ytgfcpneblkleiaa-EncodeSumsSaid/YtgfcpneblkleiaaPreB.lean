/-
  A row of package precode's numbers; all its rows.
-/
import Derived.Test.YtgfcpneblkleiaaPreA
namespace Go.Proofs.Ytgfcpneblkleiaa
open Go.ChangeShapes Go.WideShapes Go.ChangeAt Go.RowKit Go.Joins
set_option linter.unusedVariables false

theorem pnN_spar {s j i : Nat} (h : j < s) : pnN s j i = sparN s j i := if_pos h
theorem pnN_dens {s j i : Nat} (h : ¬ j < s) : pnN s j i = powI 2 (((i + 1) * (j - s + 1) : Nat) : Int) := if_neg h

set_option maxHeartbeats 800000 in
theorem numbers_any (j k : Nat) (h1 : 1 ≤ k) (hk : k ≤ 64) (hj : j < spN k + 2) (w : World) :
    Calls Try.prog 33 #[.int .i64 (j : Int), .int .i64 (k : Int)] w fun e w' => e = .returned (.slice (some ⟨w.heap.size, 0, none⟩) k k) ∧ NewTo w w' (parRow k j) k := by
  have hmk := make_row k (by omega)
  have HN := Lib.hid (new_start w (parRow k j) k (parRow_len k j))
  have HG : Hid (∀ i (h : i < (parRow k j).length), (parRow k j)[i] = pnN (spN k) j i) := parRow_get k j
  have HL := Lib.hid (parRow_len k j)
  have hb := spN_bound hk
  have ht := spN_two h1
  have HS := Lib.hid (sparses_any k hk)
  generalize spN k = s at *
  generalize parRow k j = m at *
  have HSP : Hid (∀ i : Nat, i ≤ 1000 → ∀ w, Calls Try.prog 38 #[.int .i64 (j : Int), .int .i64 (i : Int), .int .i64 (s : Int)] w fun e w' => e = .returned (.int .u8 ((sparN s j i : Nat) : Int)) ∧ w = w') := fun i hi w => sparse_any j i s (by omega) hi (by omega) (by omega) w
  go_enter Try.func33, Try.ntmps33
  go_wp2_with (go_at_call 32; refine (HS.out _).mono ?_; rintro e w' ⟨rfl, rfl⟩)
  clear hmk
  go_loopw [14] (fun i wr => ∃ i' : Nat, i' ≤ k ∧ i = .int .i64 i' ∧ Hid (NewTo w wr m i')) (fun i _ => k - (intOf i).toNat)
  case atStart => exact ⟨0, by omega, rfl, HN⟩
  case round =>
    obtain ⟨i, hi, rfl, HK⟩ := hrel
    by_cases hlt : i < k
    · obtain ⟨vk, hcv⟩ := HK.out.row.has i (by rw [HL.out]; exact hlt)
      have hlo := HK.out.row.loose i
      have HX : Hid (NewTo w (wr.setCell ⟨w.heap.size, i, none⟩ (.int .u8 ((pnN s j i : Nat) : Int))) m (i + 1)) := HK.out.set (by rw [HL.out]; exact hlt) (by rw [HG.out])
      by_cases hjs : j < s
      · rw [pnN_spar hjs] at HX
        have hq := sparN_lt s j i
        generalize hqq : sparN s j i = q at *
        have HC : Hid (∀ w, Calls Try.prog 38 #[.int .i64 (j : Int), .int .i64 (i : Int), .int .i64 (s : Int)] w fun e w' => e = .returned (.int .u8 (q : Int)) ∧ w = w') := fun w => by
          have := HSP.out i (by omega) w
          rwa [hqq] at this
        clear hqq
        go_wp2_with (go_at_call 38; refine (HC.out _).mono ?_; rintro e w' ⟨rfl, rfl⟩)
        go_roundw
        case rel => exact ⟨i + 1, by omega, by go_num, HX⟩
        case measure => simp [intOf]; omega
      · rw [pnN_dens hjs] at HX
        have hd : ¬ ((j : Int) < (s : Int)) := by omega
        have hq := powI_lt (show 2 < 256 by omega) (((i + 1) * (j - s + 1) : Nat) : Int)
        have hsub : (j : Int) - (s : Int) = ((j - s : Nat) : Int) := by omega
        have HC : Hid (∀ w, Calls Try.prog 39 #[.int .i64 ((j - s : Nat) : Int), .int .i64 (i : Int)] w fun e w' => e = .returned (.int .u8 ((powI 2 (((i + 1) * (j - s + 1) : Nat) : Int) : Nat) : Int)) ∧ w = w') := fun w => dense_any (j - s) i (by omega) (by omega) w
        have hjs2 : j - s < 2 := by omega
        generalize powI 2 (((i + 1) * (j - s + 1) : Nat) : Int) = q at *
        generalize j - s = d at *
        go_wp2_with (go_at_call 39; refine (HC.out _).mono ?_; rintro e w' ⟨rfl, rfl⟩)
        go_roundw
        case rel => exact ⟨i + 1, by omega, by go_num, HX⟩
        case measure => simp [intOf]; omega
    · obtain rfl : i = k := by omega
      go_wp2_with fail
      go_ret
      exact ⟨rfl, HK.out⟩
end Go.Proofs.Ytgfcpneblkleiaa
