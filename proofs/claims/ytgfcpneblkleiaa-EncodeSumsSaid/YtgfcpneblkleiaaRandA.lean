/-
  What package rand's calls, and the document's, answer of any state.
-/
import Derived.Test.YtgfcpneblkleiaaRows
import Derived.Test.YtgfcpneblkleiaaRandMath
import Derived.WalkKit
import Derived.ProofKit
import Derived.OpenShut
import Derived.Below
import Derived.WalkSpells
import Derived.WalkLawsBesides
import Derived.Outline
import Derived.Deep.QuietTactic
import Derived.BigQuiet
import Derived.Lib.Hide
import Derived.Laws.BitsAllLaws
import Derived.StillTailTactics
import Derived.Lib.SmallJoins
import Derived.Deep.WholeRow
namespace Go.Proofs.Ytgfcpneblkleiaa
open Go.ChangeShapes Go.WideShapes Go.ChangeAt Go.RowKit Go.Joins
set_option linter.unusedVariables false

theorem ret_u32 {a b : Nat} (h : a = b) : Ending.returned (.int .u32 (a : Int)) = .returned (.int .u32 (b : Int)) := by rw [h]
theorem ret_u64 {a b : Nat} (h : a = b) : Ending.returned (.int .u64 (a : Int)) = .returned (.int .u64 (b : Int)) := by rw [h]
theorem xor32 (a b : Nat) (ha : a < 4294967296) (hb : b < 4294967296) : bits .xor .u32 (a : Int) (b : Int) = ((a ^^^ b : Nat) : Int) := u32_xor_nat a b ha hb
theorem xor64u (a b : Nat) (ha : a < 4294967296) (hb : b < 4294967296) : bits .xor .u64 (a : Int) (b : Int) = ((a ^^^ b : Nat) : Int) := u64_xor_nat a b (by omega) (by omega)
theorem and64u (a : Nat) (ha : a < 18446744073709551616) : bits .and .u64 (a : Int) 4294967295 = ((a % 4294967296 : Nat) : Int) := by
  have := u64_and_nat a 4294967295 ha (by omega)
  rw [show a &&& 4294967295 = a % 4294967296 from Nat.and_two_pow_sub_one_eq_mod a 32] at this
  exact this

theorem following_any (x : Nat) (hx : x < 4294967296) (w : World) :
    Calls Try.prog 48 #[.int .u32 (x : Int)] w fun e w' => e = .returned (.int .u32 ((nextN x : Nat) : Int)) ∧ w = w' := by
  have h1 := up13_lt hx
  have h2 := dn17_lt h1
  have e1 : bits .xor .u32 (x : Int) ((x : Int) * 8192 % 4294967296) = ((up13 x : Nat) : Int) := xor32 x (x * 8192 % 4294967296) hx (Nat.mod_lt _ (by omega))
  have HN : Hid (nextN x = up5 (dn17 (up13 x))) := rfl
  generalize up13 x = y at *
  have e2 : bits .xor .u32 (y : Int) ((y : Int) / 131072) = ((dn17 y : Nat) : Int) := xor32 y (y / 131072) h1 (by omega)
  generalize dn17 y = z at *
  have e3 : bits .xor .u32 (z : Int) ((z : Int) * 32 % 4294967296) = ((up5 z : Nat) : Int) := xor32 z (z * 32 % 4294967296) h2 (Nat.mod_lt _ (by omega))
  go_enter Try.func48, Try.ntmps48
  go_wp2
  go_ret
  exact ⟨ret_u32 HN.out.symm, rfl⟩

theorem refNext_any (x : Nat) (hx : x < 4294967296) (w : World) :
    Calls Try.prog 22 #[.int .u64 (x : Int)] w fun e w' => e = .returned (.int .u64 ((nextN x : Nat) : Int)) ∧ w = w' := by
  have h1 := up13_lt hx
  have h2 := dn17_lt h1
  have a1 : bits .and .u64 ((x : Int) * 8192) 4294967295 = ((x * 8192 % 4294967296 : Nat) : Int) := and64u (x * 8192) (by omega)
  have e1 : bits .xor .u64 (x : Int) ((x * 8192 % 4294967296 : Nat) : Int) = ((up13 x : Nat) : Int) := xor64u x (x * 8192 % 4294967296) hx (Nat.mod_lt _ (by omega))
  have HN : Hid (nextN x = up5 (dn17 (up13 x))) := rfl
  generalize up13 x = y at *
  have e2 : bits .xor .u64 (y : Int) ((y : Int) / 131072) = ((dn17 y : Nat) : Int) := xor64u y (y / 131072) h1 (by omega)
  generalize dn17 y = z at *
  have a3 : bits .and .u64 ((z : Int) * 32) 4294967295 = ((z * 32 % 4294967296 : Nat) : Int) := and64u (z * 32) (by omega)
  have e3 : bits .xor .u64 (z : Int) ((z * 32 % 4294967296 : Nat) : Int) = ((up5 z : Nat) : Int) := xor64u z (z * 32 % 4294967296) h2 (Nat.mod_lt _ (by omega))
  generalize x * 8192 % 4294967296 = p at *
  generalize z * 32 % 4294967296 = q at *
  go_enter Try.func22, Try.ntmps22
  go_wp2
  go_ret
  exact ⟨ret_u64 HN.out.symm, rfl⟩

theorem refBegin_any (s : Nat) (hs : s < 4294967296) (w : World) :
    Calls Try.prog 23 #[.int .u32 (s : Int)] w fun e w' => e = .returned (.int .u64 ((beginN s : Nat) : Int)) ∧ w = w' := by
  have e1 : bits .xor .u64 (s : Int) 2654435769 = ((s ^^^ 2654435769 : Nat) : Int) := xor64u s 2654435769 hs (by omega)
  have hx : s ^^^ 2654435769 < 4294967296 := Nat.xor_lt_two_pow (n := 32) hs (by omega)
  have HB : Hid (beginN s = if s ^^^ 2654435769 = 0 then 1 else s ^^^ 2654435769) := rfl
  generalize s ^^^ 2654435769 = x at *
  by_cases h0 : x = 0
  · have HV : Hid (beginN s = 1) := by rw [HB.out, if_pos h0]; rfl
    have hz : ((x : Int) == 0) = true := by subst h0; rfl
    clear h0
    go_enter Try.func23, Try.ntmps23
    go_wp2
    go_ret
    exact ⟨ret_u64 HV.out.symm, rfl⟩
  · have HV : Hid (beginN s = x) := by rw [HB.out, if_neg h0]; rfl
    have hz : ((x : Int) == 0) = false := by simpa using h0
    clear h0
    go_enter Try.func23, Try.ntmps23
    go_wp2
    go_ret
    exact ⟨ret_u64 HV.out.symm, rfl⟩

/-- A Rand: a block of one number. -/
structure RSt (w : World) (B : Nat) (x : Nat) : Prop where
  blk : w.heap[B]? = some (.cells #[.int .u32 (x : Int)] 67 (0, 0))
theorem RSt.cell {w : World} {B x : Nat} (h : RSt w B x) : w.cell? ⟨B, 0, none⟩ = some (.int .u32 (x : Int)) := (cell_of_row w B 0 _ _ (0, 0) h.blk).trans rfl
theorem RSt.loose {w : World} {B x : Nat} (h : RSt w B x) : w.frozen? ⟨B, 0, none⟩ = false := unfrozen_of_block h.blk 0
theorem RSt.lt {w : World} {B x : Nat} (h : RSt w B x) : B < w.heap.size := (Array.getElem?_eq_some_iff.1 h.blk).1
theorem RSt.set {w : World} {B x : Nat} (h : RSt w B x) (y : Nat) : RSt (w.setCell ⟨B, 0, none⟩ (.int .u32 (y : Int))) B y := ⟨by rw [heap_setCell_same w B 0 _ _ _ h.blk]; rfl⟩
/-- Nothing but block B has turned. -/
structure ROnly (B : Nat) (w w' : World) : Prop where
  os : w'.os = w.os
  tape : w'.tape = w.tape
  output : w'.output = w.output
  size : w'.heap.size = w.heap.size
  block : ∀ k, k ≠ B → w'.heap[k]? = w.heap[k]?
theorem ROnly.refl (B : Nat) (w : World) : ROnly B w w := ⟨rfl, rfl, rfl, rfl, fun _ _ => rfl⟩
theorem ROnly.trans {B : Nat} {a b c : World} (h : ROnly B a b) (k : ROnly B b c) : ROnly B a c := ⟨k.os.trans h.os, k.tape.trans h.tape, k.output.trans h.output, k.size.trans h.size, fun i hi => (k.block i hi).trans (h.block i hi)⟩
theorem ROnly.set (B i : Nat) (w : World) (v : Value) : ROnly B w (w.setCell ⟨B, i, none⟩ v) := ⟨rfl, rfl, rfl, by simp, fun k hk => heap_setCell_other w _ k v hk⟩
theorem ROnly.below {B k : Nat} {w w' : World} (h : ROnly B w w') (hk : k ≤ B) : Below k w w' := ⟨h.os, h.tape, h.output, by rw [h.size]; exact Nat.le_refl _, fun i hi => h.block i (by omega)⟩

theorem next_any {w : World} {B x : Nat} (hx : x < 4294967296) (h : RSt w B x) :
    Calls Try.prog 46 #[.pointer (some ⟨B, 0, none⟩)] w fun e w' => e = .returned (.int .u32 ((nextN x : Nat) : Int)) ∧ RSt w' B (nextN x) ∧ ROnly B w w' := by
  have c0 := h.cell
  have f0 := h.loose
  have HS := Lib.hid (h.set (nextN x))
  have ef := fun w => following_any x hx w
  clear h
  generalize nextN x = y at *
  go_enter Try.func46, Try.ntmps46
  go_wp2_with (go_at_call 48; refine (ef _).mono ?_; rintro e w' ⟨rfl, rfl⟩)
  go_ret
  exact ⟨rfl, HS.out, ROnly.set _ _ _ _⟩

theorem next_nil (w : World) : Calls Try.prog 46 #[.pointer none] w fun e w' => e = .returned (.int .u32 0) ∧ w = w' := by
  go_enter Try.func46, Try.ntmps46
  go_wp2_with fail
  go_ret
  exact ⟨rfl, rfl⟩

theorem below_nil (n : Int) (w : World) : Calls Try.prog 42 #[.pointer none, .int .i64 n] w fun e w' => e = .returned (.int .i64 0) ∧ w = w' := by
  go_enter Try.func42, Try.ntmps42
  go_wp2_with fail
  go_ret
  exact ⟨rfl, rfl⟩
theorem degree_nil (n : Int) (w : World) : Calls Try.prog 40 #[.pointer none, .int .i64 n] w fun e w' => e = .returned (.int .i64 0) ∧ w = w' := by
  go_enter Try.func40, Try.ntmps40
  go_wp2_with fail
  go_ret
  exact ⟨rfl, rfl⟩
theorem below_none (n : Int) (B : Nat) (hn : n < 1) (w : World) : Calls Try.prog 42 #[.pointer (some ⟨B, 0, none⟩), .int .i64 n] w fun e w' => e = .returned (.int .i64 0) ∧ w = w' := by
  go_enter Try.func42, Try.ntmps42
  go_wp2_with fail
  go_ret
  exact ⟨rfl, rfl⟩
theorem ret_i64 {a b : Int} (h : a = b) : Ending.returned (.int .i64 a) = .returned (.int .i64 b) := by rw [h]
theorem below_some {w : World} {B x : Nat} (n : Int) (hx : x < 4294967296) (h : RSt w B x) (hn : 1 ≤ n) (hm : n ≤ 9223372036854775807) :
    Calls Try.prog 42 #[.pointer (some ⟨B, 0, none⟩), .int .i64 n] w fun e w' => e = .returned (.int .i64 ((nextN x : Int) % n)) ∧ RSt w' B (nextN x) ∧ ROnly B w w' := by
  have e1 := next_any hx h
  have hy := nextN_lt hx
  clear h
  generalize nextN x = y at *
  have hz : 0 ≤ (y : Int) % n := Int.emod_nonneg _ (by omega)
  have hz2 : (y : Int) % n < 4294967296 := by
    have h1 : (y : Int) % n ≤ y := by
      obtain ⟨m, rfl⟩ : ∃ m : Nat, n = (m : Int) := ⟨n.toNat, by omega⟩
      have := Nat.mod_le y m
      rw [← Int.natCast_emod]
      omega
    omega
  have hn0 : n ≠ 0 := by omega
  obtain ⟨z, hzz⟩ : ∃ z, (y : Int) % n = z := ⟨_, rfl⟩
  rw [hzz] at hz hz2 ⊢
  have hlt : n < 18446744073709551616 := by omega
  go_enter Try.func42, Try.ntmps42
  go_wp2_with (go_at_call 46; refine e1.mono ?_; rintro e w1 ⟨rfl, h1, h2⟩)
  go_ret
  exact ⟨rfl, h1, h2⟩

set_option maxRecDepth 100000 in
theorem degree0_any (d : Nat) (hd : d < 1024) (w : World) : Calls Try.prog 45 #[.int .u32 (d : Int)] w fun e w' => e = .returned (.int .i64 ((degN d : Nat) : Int)) ∧ w = w' := by
  have HD : Hid (degN d = if d < 16 then 1 else if d < 528 then 2 else if d < 696 then 3 else if d < 780 then 4 else if d < 860 then 6 else if d < 930 then 10 else if d < 980 then 18 else 34) := rfl
  generalize degN d = D at *
  by_cases h1 : d < 16
  · have HV : Hid (D = 1) := by rw [HD.out, if_pos h1]; rfl
    go_enter Try.func45, Try.ntmps45
    go_wp2_with fail
    go_ret
    exact ⟨ret_i64 (by rw [HV.out]; rfl), rfl⟩
  by_cases h2 : d < 528
  · have HV : Hid (D = 2) := by rw [HD.out, if_neg h1, if_pos h2]; rfl
    go_enter Try.func45, Try.ntmps45
    go_wp2_with fail
    go_ret
    exact ⟨ret_i64 (by rw [HV.out]; rfl), rfl⟩
  by_cases h3 : d < 696
  · have HV : Hid (D = 3) := by rw [HD.out, if_neg h1, if_neg h2, if_pos h3]; rfl
    go_enter Try.func45, Try.ntmps45
    go_wp2_with fail
    go_ret
    exact ⟨ret_i64 (by rw [HV.out]; rfl), rfl⟩
  by_cases h4 : d < 780
  · have HV : Hid (D = 4) := by rw [HD.out, if_neg h1, if_neg h2, if_neg h3, if_pos h4]; rfl
    go_enter Try.func45, Try.ntmps45
    go_wp2_with fail
    go_ret
    exact ⟨ret_i64 (by rw [HV.out]; rfl), rfl⟩
  by_cases h5 : d < 860
  · have HV : Hid (D = 6) := by rw [HD.out, if_neg h1, if_neg h2, if_neg h3, if_neg h4, if_pos h5]; rfl
    go_enter Try.func45, Try.ntmps45
    go_wp2_with fail
    go_ret
    exact ⟨ret_i64 (by rw [HV.out]; rfl), rfl⟩
  by_cases h6 : d < 930
  · have HV : Hid (D = 10) := by rw [HD.out, if_neg h1, if_neg h2, if_neg h3, if_neg h4, if_neg h5, if_pos h6]; rfl
    go_enter Try.func45, Try.ntmps45
    go_wp2_with fail
    go_ret
    exact ⟨ret_i64 (by rw [HV.out]; rfl), rfl⟩
  by_cases h7 : d < 980
  · have HV : Hid (D = 18) := by rw [HD.out, if_neg h1, if_neg h2, if_neg h3, if_neg h4, if_neg h5, if_neg h6, if_pos h7]; rfl
    go_enter Try.func45, Try.ntmps45
    go_wp2_with fail
    go_ret
    exact ⟨ret_i64 (by rw [HV.out]; rfl), rfl⟩
  have HV : Hid (D = 34) := by rw [HD.out, if_neg h1, if_neg h2, if_neg h3, if_neg h4, if_neg h5, if_neg h6, if_neg h7]; rfl
  go_enter Try.func45, Try.ntmps45
  go_wp2_with fail
  go_ret
  exact ⟨ret_i64 (by rw [HV.out]; rfl), rfl⟩

theorem degree_any {w : World} {B x : Nat} (n : Int) (hx : x < 4294967296) (h : RSt w B x) :
    Calls Try.prog 40 #[.pointer (some ⟨B, 0, none⟩), .int .i64 n] w fun e w' => e = .returned (.int .i64 (capI (degN (nextN x % 1024)) n)) ∧ RSt w' B (nextN x) ∧ ROnly B w w' := by
  have e1 := next_any hx h
  have hy := nextN_lt hx
  clear h
  generalize nextN x = y at *
  have hz : y % 1024 < 1024 := Nat.mod_lt _ (by omega)
  have he : (y : Int) % 1024 = ((y % 1024 : Nat) : Int) := rfl
  generalize y % 1024 = z at *
  have e2 := fun w => degree0_any z hz w
  have hd := degN_le z
  generalize degN z = d at *
  by_cases hc : (d : Int) < n
  · have HC : Hid (capI d n = d) := by show _ = _; unfold capI; omega
    by_cases hd1 : d = 1
    · subst hd1
      go_enter Try.func40, Try.ntmps40
      go_wp2_with (first | (go_at_call 46; refine e1.mono ?_; rintro e w1 ⟨rfl, h1, h2⟩) | (go_at_call 45; refine (e2 _).mono ?_; rintro e w1 ⟨rfl, rfl⟩))
      go_ret
      exact ⟨ret_i64 HC.out.symm, h1, h2⟩
    · have hd2 : 1 < (d : Int) := by omega
      go_enter Try.func40, Try.ntmps40
      go_wp2_with (first | (go_at_call 46; refine e1.mono ?_; rintro e w1 ⟨rfl, h1, h2⟩) | (go_at_call 45; refine (e2 _).mono ?_; rintro e w1 ⟨rfl, rfl⟩))
      go_ret
      exact ⟨ret_i64 HC.out.symm, h1, h2⟩
  · have hc2 : n ≤ (d : Int) := by omega
    clear hc
    by_cases h1n : 1 < n
    · have HC : Hid (capI d n = n) := by show _ = _; unfold capI; omega
      go_enter Try.func40, Try.ntmps40
      go_wp2_with (first | (go_at_call 46; refine e1.mono ?_; rintro e w1 ⟨rfl, h1, h2⟩) | (go_at_call 45; refine (e2 _).mono ?_; rintro e w1 ⟨rfl, rfl⟩))
      go_ret
      exact ⟨ret_i64 HC.out.symm, h1, h2⟩
    · have h2n : n ≤ 1 := by omega
      have HC : Hid (capI d n = 1) := by show _ = _; unfold capI; omega
      go_enter Try.func40, Try.ntmps40
      go_wp2_with (first | (go_at_call 46; refine e1.mono ?_; rintro e w1 ⟨rfl, h1, h2⟩) | (go_at_call 45; refine (e2 _).mono ?_; rintro e w1 ⟨rfl, rfl⟩))
      go_ret
      exact ⟨ret_i64 HC.out.symm, h1, h2⟩

theorem new_any (s : Nat) (hs : s < 4294967296) (w : World) :
    Calls Try.prog 35 #[.int .u32 (s : Int)] w fun e w' => e = .returned (.pointer (some ⟨w.heap.size, 0, none⟩)) ∧ RSt w' w.heap.size (beginN s) ∧ Below w.heap.size w w' ∧ w'.heap.size = w.heap.size + 1 := by
  have e1 : bits .xor .u32 (s : Int) 2654435769 = ((s ^^^ 2654435769 : Nat) : Int) := xor32 s 2654435769 hs (by omega)
  have hx : s ^^^ 2654435769 < 4294967296 := Nat.xor_lt_two_pow (n := 32) hs (by omega)
  have HB : Hid (beginN s = if s ^^^ 2654435769 = 0 then 1 else s ^^^ 2654435769) := rfl
  generalize s ^^^ 2654435769 = x at *
  by_cases h0 : x = 0
  · have HV : Hid (beginN s = 1) := by rw [HB.out, if_pos h0]; rfl
    have hz : ((x : Int) == 0) = true := by subst h0; rfl
    clear h0
    go_enter Try.func35, Try.ntmps35
    go_wp2
    go_ret
    rw [HV.out]
    exact ⟨rfl, ⟨heap_alloc_last w _⟩, (Below.refl _ _).alloc (Nat.le_refl _) _, by simp⟩
  · have HV : Hid (beginN s = x) := by rw [HB.out, if_neg h0]; rfl
    have hz : ((x : Int) == 0) = false := by simpa using h0
    clear h0
    go_enter Try.func35, Try.ntmps35
    go_wp2
    go_ret
    rw [HV.out]
    exact ⟨rfl, ⟨heap_alloc_last w _⟩, (Below.refl _ _).alloc (Nat.le_refl _) _, by simp⟩

set_option maxRecDepth 100000 in
set_option maxHeartbeats 400000 in
theorem refDegree_any (d : Nat) (n : Int) (hd : d < 1024) (w : World) : Calls Try.prog 25 #[.int .u64 (d : Int), .int .i64 n] w fun e w' => e = .returned (.int .i64 (capI (degN d) n)) ∧ w = w' := by
  have HD : Hid (degN d = if d < 16 then 1 else if d < 528 then 2 else if d < 696 then 3 else if d < 780 then 4 else if d < 860 then 6 else if d < 930 then 10 else if d < 980 then 18 else 34) := rfl
  have HK : Hid (∀ D : Nat, degN d = D → ∀ v : Int, v = max 1 (min n (D : Int)) → v = capI (degN d) n) := by
    intro D h v hv
    subst h
    exact hv
  generalize degN d = D at *
  by_cases h1 : d < 16
  · have HV : Hid (D = 1) := by rw [HD.out, if_pos h1]; rfl
    clear HD
    go_enter Try.func25, Try.ntmps25
    go_wp2_with fail
    all_goals
      go_ret
      exact ⟨ret_i64 (HK.out _ HV.out _ (by omega)), rfl⟩
  by_cases h2 : d < 528
  · have HV : Hid (D = 2) := by rw [HD.out, if_neg h1, if_pos h2]; rfl
    clear HD
    go_enter Try.func25, Try.ntmps25
    go_wp2_with fail
    all_goals
      go_ret
      exact ⟨ret_i64 (HK.out _ HV.out _ (by omega)), rfl⟩
  by_cases h3 : d < 696
  · have HV : Hid (D = 3) := by rw [HD.out, if_neg h1, if_neg h2, if_pos h3]; rfl
    clear HD
    go_enter Try.func25, Try.ntmps25
    go_wp2_with fail
    all_goals
      go_ret
      exact ⟨ret_i64 (HK.out _ HV.out _ (by omega)), rfl⟩
  by_cases h4 : d < 780
  · have HV : Hid (D = 4) := by rw [HD.out, if_neg h1, if_neg h2, if_neg h3, if_pos h4]; rfl
    clear HD
    go_enter Try.func25, Try.ntmps25
    go_wp2_with fail
    all_goals
      go_ret
      exact ⟨ret_i64 (HK.out _ HV.out _ (by omega)), rfl⟩
  by_cases h5 : d < 860
  · have HV : Hid (D = 6) := by rw [HD.out, if_neg h1, if_neg h2, if_neg h3, if_neg h4, if_pos h5]; rfl
    clear HD
    go_enter Try.func25, Try.ntmps25
    go_wp2_with fail
    all_goals
      go_ret
      exact ⟨ret_i64 (HK.out _ HV.out _ (by omega)), rfl⟩
  by_cases h6 : d < 930
  · have HV : Hid (D = 10) := by rw [HD.out, if_neg h1, if_neg h2, if_neg h3, if_neg h4, if_neg h5, if_pos h6]; rfl
    clear HD
    go_enter Try.func25, Try.ntmps25
    go_wp2_with fail
    all_goals
      go_ret
      exact ⟨ret_i64 (HK.out _ HV.out _ (by omega)), rfl⟩
  by_cases h7 : d < 980
  · have HV : Hid (D = 18) := by rw [HD.out, if_neg h1, if_neg h2, if_neg h3, if_neg h4, if_neg h5, if_neg h6, if_pos h7]; rfl
    clear HD
    go_enter Try.func25, Try.ntmps25
    go_wp2_with fail
    all_goals
      go_ret
      exact ⟨ret_i64 (HK.out _ HV.out _ (by omega)), rfl⟩
  have HV : Hid (D = 34) := by rw [HD.out, if_neg h1, if_neg h2, if_neg h3, if_neg h4, if_neg h5, if_neg h6, if_neg h7]; rfl
  clear HD
  go_enter Try.func25, Try.ntmps25
  go_wp2_with fail
  all_goals
    go_ret
    exact ⟨ret_i64 (HK.out _ HV.out _ (by omega)), rfl⟩

end Go.Proofs.Ytgfcpneblkleiaa
