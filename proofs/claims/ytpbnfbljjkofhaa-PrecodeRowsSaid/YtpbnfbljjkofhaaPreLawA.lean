/-
  The laws of package precode: awake; PrecodeRows, walked.
-/
import Derived.Test.YtpbnfbljjkofhaaPreC
import Derived.Test.YtpbnfbljjkofhaaPreRef
import Derived.Test.YtpbnfbljjkofhaaRowsIn
namespace Go.Proofs.Ytpbnfbljjkofhaa
open Go.ChangeShapes Go.WideShapes Go.ChangeAt Go.RowKit Go.Joins
set_option linter.unusedVariables false

theorem awake_any (w : World) : Calls Try.prog 5 #[] w fun e w' => e = .returned (.bool true) ∧ w = w' := by
  have HC : Hid (∀ w, Calls Try.prog 7 #[.int .i64 8] w fun e w' => e = .returned (.int .i64 4) ∧ w = w') := count_any 8 (by omega) (by omega)
  go_enter Try.func5, Try.ntmps5
  go_wp2_with (go_at_call 7; refine (HC.out _).mono ?_; rintro e w' ⟨rfl, rfl⟩)
  go_ret
  exact ⟨rfl, rfl⟩

set_option maxRecDepth 100000 in
set_option maxHeartbeats 2000000 in
theorem precodeRows_out (k : Int) (hk : k < 1 ∨ 64 < k) (w : World) :
    Calls Try.prog 3 #[.int .i64 k] w (TrueAnd w) := by
  have HAW := Lib.hid awake_any
  have HR := Lib.hid (rows_none k hk w)
  have HC := Lib.hid (count_none k hk)
  by_cases h1 : k < 1
  · clear hk
    go_enter Try.func3, Try.ntmps3
    go_wp2_with (go_at_call 5; refine (HAW.out _).mono ?_; rintro e w' ⟨rfl, rfl⟩)
    refine HR.out.mono ?_
    rintro e w1 ⟨g, rfl, hg, hb⟩
    have HB := Lib.hid hb
    clear hg hb
    go_wp2_with (go_at_call 7; refine (HC.out _).mono ?_; rintro e w' ⟨rfl, rfl⟩)
    go_ret
    exact ⟨rfl, HB.out⟩
  · have h2 : 64 < k := by omega
    clear hk
    go_enter Try.func3, Try.ntmps3
    go_wp2_with (go_at_call 5; refine (HAW.out _).mono ?_; rintro e w' ⟨rfl, rfl⟩)
    refine HR.out.mono ?_
    rintro e w1 ⟨g, rfl, hg, hb⟩
    have HB := Lib.hid hb
    clear hg hb
    go_wp2_with (go_at_call 7; refine (HC.out _).mono ?_; rintro e w' ⟨rfl, rfl⟩)
    go_ret
    exact ⟨rfl, HB.out⟩

set_option maxRecDepth 100000 in
set_option maxHeartbeats 2000000 in
theorem precodeRows_in (k : Nat) (h1 : 1 ≤ k) (hk : k ≤ 64) (w : World) :
    Calls Try.prog 3 #[.int .i64 (k : Int)] w (TrueAnd w) := by
  have HAW := Lib.hid awake_any
  have HR := Lib.hid (rows_pre k h1 hk w)
  have HC := Lib.hid (count_any k h1 hk)
  have HP := Lib.hid (refPar_any k h1 hk)
  have HLEN := Lib.hid (parRows_len k)
  have hsb := spN_bound hk
  generalize parRows k = P at *
  generalize spN k = s at *
  obtain ⟨n, hn⟩ : ∃ n, n = s + 2 := ⟨_, rfl⟩
  rw [← hn] at HR HC HLEN
  have hnb : n ≤ 100 := by omega
  have hne : ((n : Int) != (n : Int)) = false := by simp
  clear hn hsb
  have d1 : ¬ ((k : Int) < 1) := by omega
  have d2 : ¬ ((64 : Int) < (k : Int)) := by omega
  go_enter Try.func3, Try.ntmps3
  go_wp2_with (go_at_call 5; refine (HAW.out _).mono ?_; rintro e w' ⟨rfl, rfl⟩)
  refine HR.out.mono ?_
  rintro e w1 ⟨g1, rfl, hg, hb⟩
  have HB1 := Lib.hid hb
  have HR1 := Lib.hid (hg.rs (by rw [HLEN.out]; omega))
  clear hg hb
  go_wp2_with fail
  refine (HP.out w1).mono ?_
  rintro e w2 ⟨v, rfl, ho, hb2⟩
  obtain ⟨a2, c2, rfl, hr2⟩ := ho.rs
  rw [HLEN.out]
  have HR2 := Lib.hid hr2
  have HB2 := Lib.hid hb2
  clear ho hr2 hb2
  go_wp2_with (go_at_call 7; refine (HC.out _).mono ?_; rintro e w' ⟨rfl, rfl⟩)
  go_loopw [40] (fun i wr => ∃ j : Nat, j ≤ n ∧ i = .int .i64 j ∧ Hid (Below w2.heap.size w2 wr)) (fun i _ => n - (intOf i).toNat)
  case atStart => exact ⟨0, by omega, rfl, Below.refl _ _⟩
  case round =>
    obtain ⟨j, hj, rfl, HB⟩ := hrel
    by_cases hlt : j < n
    · have hjP : j < P.length := by rw [HLEN.out]; exact hlt
      obtain ⟨bl, ol, el, hbl, hrl⟩ := HR1.out.some hjP
      cases el
      obtain ⟨al, cl, x3, rl⟩ := hrl j hjP
      obtain ⟨bx, ox, rfl, hbx, hrx⟩ := HR2.out.some hjP
      obtain ⟨ax, cx, x5, rx⟩ := hrx j hjP
      have HB13 : Hid (Below w1.heap.size w1 wr) := HB2.out.trans (HB.out.mono HB2.out.size)
      have x3 := (HB13.out.cell (p := ⟨g1, 0 + j, none⟩) hbl).trans x3
      have x5 := (HB.out.cell (p := ⟨bx, ox + j, none⟩) hbx).trans x5
      have sl := conv_class (rl.sl.below HB13.out) rfl
      have sx := conv_class (rx.sl.below HB.out) rfl
      generalize P[j] = m at *
      rw [Nat.zero_add] at x3
      have y3 := cell_up x3
      have y5 := cell_up x5
      have hj0 : (0 : Int) ≤ (j : Int) := by omega
      have hjl : (j : Int) < (n : Int) := by omega
      clear hrx hrl rx rl x3 x5
      go_wp2_with fail
      refine grow_begin (by kernel_rfl) ?_
      refine grow_take (by kernel_rfl) [0, 1, 2, 3, 4, 5, 6, 7, 8, 9, 10] 0 _ _ (by kernel_rfl) ?_
      simp only [opsAt, List.getElem?_toArray, List.getElem?_cons_succ, List.getElem?_cons_zero]
      repeat (first | go_big_quiet_step (fail) | quiet_step (fail))
      refine wpQuiet_nil ?_
      intro w8 hw8
      have hb8 := below_of_up hw8
      refine grow_done (by kernel_rfl) ?_
      have HB8 : Hid (Below w2.heap.size w2 w8) := HB.out.trans (hb8.mono HB.out.size)
      clear y3 y5 sx sl hb8 hw8
      go_wp2_with fail
      go_roundw
      case rel => exact ⟨j + 1, by omega, by go_num, HB8⟩
      case measure => simp [intOf]; omega
    · obtain rfl : j = n := by omega
      have hltz : ¬ (j : Int) < (j : Int) := by omega
      go_wp2_with fail
      go_ret
      exact ⟨rfl, HB1.out.trans ((HB2.out.trans (HB.out.mono HB2.out.size)).mono HB1.out.size)⟩

theorem precodeRows_walk (k : Int) (w : World) : Calls Try.prog 3 #[.int .i64 k] w (TrueAnd w) := by
  by_cases h : k < 1 ∨ 64 < k
  · exact precodeRows_out k h w
  · obtain ⟨n, rfl⟩ : ∃ n : Nat, k = n := ⟨k.toNat, by omega⟩
    exact precodeRows_in n (by omega) (by omega) w
end Go.Proofs.Ytpbnfbljjkofhaa
