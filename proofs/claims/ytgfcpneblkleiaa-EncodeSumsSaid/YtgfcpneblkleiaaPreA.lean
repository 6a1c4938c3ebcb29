/-
  Package precode's numbers: how many parities, and what each has at each source.
-/
import Derived.Test.YtgfcpneblkleiaaFieldP
import Derived.Test.YtgfcpneblkleiaaRefSym
namespace Go.Proofs.Ytgfcpneblkleiaa
open Go.ChangeShapes Go.WideShapes Go.ChangeAt Go.RowKit Go.Joins
set_option linter.unusedVariables false

/-- How many sparse parities. -/
def spN (k : Nat) : Nat := (k + 7) / 8 + 1
/-- The number of a sparse parity. -/
def sparN (s j i : Nat) : Nat := if i % s = j ∨ (3 * i + 1) % s = j then 1 else 0
/-- The number of parity j at source i. -/
def pnN (s j i : Nat) : Nat := if j < s then sparN s j i else powI 2 (((i + 1) * (j - s + 1) : Nat) : Int)
def parRow (k j : Nat) : List Nat := (List.range k).map (pnN (spN k) j)
def parRows (k : Nat) : Rws := (List.range (spN k + 2)).map (parRow k)
theorem parRow_len (k j : Nat) : (parRow k j).length = k := by simp [parRow]
theorem parRow_get (k j i : Nat) (h : i < (parRow k j).length) : (parRow k j)[i] = pnN (spN k) j i := by simp [parRow]
theorem parRows_len (k : Nat) : (parRows k).length = spN k + 2 := by simp [parRows]
theorem parRows_get (k j : Nat) (h : j < (parRows k).length) : (parRows k)[j] = parRow k j := by simp [parRows]
theorem powI_lt {a : Nat} (ha : a < 256) (n : Int) : powI a n < 256 := by
  unfold powI
  split
  · omega
  · split
    · omega
    · exact powN_lt ha _
theorem sparN_lt (s j i : Nat) : sparN s j i < 256 := by unfold sparN; split <;> omega
theorem pnN_lt (s j i : Nat) : pnN s j i < 256 := by
  unfold pnN
  split
  · exact sparN_lt _ _ _
  · exact powI_lt (by omega) _
theorem parRow_byte (k j : Nat) : IsByte (parRow k j) := fun n hn => by
  obtain ⟨i, _, rfl⟩ := List.mem_map.1 hn
  exact pnN_lt _ _ _
theorem spN_bound {k : Nat} (h : k ≤ 64) : spN k ≤ 9 := by unfold spN; omega
theorem spN_two {k : Nat} (h : 1 ≤ k) : 2 ≤ spN k := by unfold spN; omega

theorem sparses_any (k : Nat) (hk : k ≤ 64) (w : World) :
    Calls Try.prog 32 #[.int .i64 (k : Int)] w fun e w' => e = .returned (.int .i64 ((spN k : Nat) : Int)) ∧ w = w' := by
  have e : ((spN k : Nat) : Int) = ((k : Int) + 7) / 8 + 1 := by unfold spN; omega
  rw [e]
  go_enter Try.func32, Try.ntmps32
  go_wp2
  go_ret
  exact ⟨rfl, rfl⟩

theorem count_any (k : Nat) (h1 : 1 ≤ k) (hk : k ≤ 64) (w : World) :
    Calls Try.prog 27 #[.int .i64 (k : Int)] w fun e w' => e = .returned (.int .i64 ((spN k + 2 : Nat) : Int)) ∧ w = w' := by
  have hb := spN_bound hk
  have d1 : ¬ ((k : Int) < 1) := by omega
  have d2 : ¬ ((64 : Int) < (k : Int)) := by omega
  have HS := Lib.hid (sparses_any k hk)
  generalize spN k = s at *
  clear h1
  go_enter Try.func27, Try.ntmps27
  go_wp2_with (go_at_call 32; refine (HS.out _).mono ?_; rintro e w' ⟨rfl, rfl⟩)
  go_ret
  exact ⟨by first | rfl | go_num, rfl⟩

theorem count_none (k : Int) (h : k < 1 ∨ 64 < k) (w : World) :
    Calls Try.prog 27 #[.int .i64 k] w fun e w' => e = .returned (.int .i64 0) ∧ w = w' := by
  by_cases h1 : k < 1
  · clear h
    go_enter Try.func27, Try.ntmps27
    go_wp2
    go_ret
    exact ⟨rfl, rfl⟩
  · have h2 : 64 < k := by omega
    clear h
    go_enter Try.func27, Try.ntmps27
    go_wp2
    go_ret
    exact ⟨rfl, rfl⟩

theorem mod_two (i s : Nat) : ((i : Int).tmod (s : Int) = ((i % s : Nat) : Int)) ∧ ((i : Int) % (s : Int) = ((i % s : Nat) : Int)) :=
  ⟨by rw [Int.tmod_eq_emod_of_nonneg (by omega)]; rfl, rfl⟩
theorem mod_three (i s : Nat) : ((3 * (i : Int) + 1).tmod (s : Int) = (((3 * i + 1) % s : Nat) : Int)) ∧ ((3 * (i : Int) + 1) % (s : Int) = (((3 * i + 1) % s : Nat) : Int)) :=
  ⟨by rw [Int.tmod_eq_emod_of_nonneg (by omega)]; rfl, rfl⟩

set_option maxHeartbeats 400000 in
theorem sparse_any (j i s : Nat) (hj : j ≤ 1000) (hi : i ≤ 1000) (hs0 : 0 < s) (hs : s ≤ 1000) (w : World) :
    Calls Try.prog 38 #[.int .i64 (j : Int), .int .i64 (i : Int), .int .i64 (s : Int)] w fun e w' => e = .returned (.int .u8 ((sparN s j i : Nat) : Int)) ∧ w = w' := by
  obtain ⟨e1, e2⟩ := mod_two i s
  obtain ⟨e3, e4⟩ := mod_three i s
  have hr := Nat.mod_lt i hs0
  have hq := Nat.mod_lt (3 * i + 1) hs0
  have hz : ((s : Int) == 0) = false := by simp; omega
  have hz2 : ¬ ((s : Int) = 0) := by omega
  by_cases h1 : i % s = j
  · have HE : Hid (sparN s j i = 1) := by show _ = _; unfold sparN; rw [if_pos (.inl h1)]
    rw [h1] at e1 e2
    have h3 : ((j : Int) == (j : Int)) = true := by simp
    clear e3 e4 hr hq h1
    go_enter Try.func38, Try.ntmps38
    go_wp2
    go_ret
    exact ⟨by rw [HE.out]; rfl, rfl⟩
  · have h1b : (((i % s : Nat) : Int) == (j : Int)) = false := by simp; omega
    by_cases h2 : (3 * i + 1) % s = j
    · have HE : Hid (sparN s j i = 1) := by show _ = _; unfold sparN; rw [if_pos (.inr h2)]
      rw [h2] at e3 e4
      have h3 : ((j : Int) == (j : Int)) = true := by simp
      generalize i % s = r at *
      clear hq h2
      go_enter Try.func38, Try.ntmps38
      go_wp2
      go_ret
      exact ⟨by rw [HE.out]; rfl, rfl⟩
    · have HE : Hid (sparN s j i = 0) := by show _ = _; unfold sparN; rw [if_neg (by omega)]
      have h2b : ((((3 * i + 1) % s : Nat) : Int) == (j : Int)) = false := by simp; omega
      generalize i % s = r at *
      generalize (3 * i + 1) % s = q at *
      go_enter Try.func38, Try.ntmps38
      go_wp2
      go_ret
      exact ⟨by rw [HE.out]; rfl, rfl⟩

theorem dense_any (d i : Nat) (hd : d < 2) (hi : i ≤ 1000) (w : World) :
    Calls Try.prog 39 #[.int .i64 (d : Int), .int .i64 (i : Int)] w fun e w' => e = .returned (.int .u8 ((powI 2 (((i + 1) * (d + 1) : Nat) : Int) : Nat) : Int)) ∧ w = w' := by
  obtain ⟨n, hn⟩ : ∃ n : Nat, n = (i + 1) * (d + 1) := ⟨_, rfl⟩
  have hb : n ≤ 2002 := by
    rw [hn]
    exact Nat.le_trans (Nat.mul_le_mul (show i + 1 ≤ 1001 by omega) (show d + 1 ≤ 2 by omega)) (by omega)
  have e : ((i : Int) + 1) * ((d : Int) + 1) = (n : Int) := by rw [hn]; simp
  rw [← hn]
  clear hn
  have HP := Lib.hid (pow_any 2 (n : Int) (by omega) (by omega) (by omega))
  go_enter Try.func39, Try.ntmps39
  go_wp2_with (go_at_call 44; refine (HP.out _).mono ?_; rintro e w' ⟨rfl, rfl⟩)
  go_ret
  exact ⟨rfl, rfl⟩
end Go.Proofs.Ytgfcpneblkleiaa
