/-
  What package rand's calls, and the document's, answer of any state.
  A slice of ints that came in.
  The laws of layer 6, walked.
  Package row's free, draw, Picks.
  A row of package precode's numbers; all its rows.
  The document's powers.
  The document's Parities.
-/
import Derived.Test.YtcopjbapglndgaaGreatDoorMr22
import Derived.Test.YtcopjbapglndgaaGreatDoorRows
import Derived.WalkKit
import Derived.ProofKit
import Derived.OpenShut
import Derived.Below
import Derived.WalkSpells
import Derived.WalkLawsBesides
import Derived.Outline
import Derived.Deep.QuietTactic
import Derived.BigQuiet
import Derived.Lib.Hide
import Derived.Laws.BitsAllLaws
import Derived.StillTailTactics
import Derived.Lib.SmallJoins
import Derived.Deep.WholeRow
import Derived.ChangeSlices
import Derived.LaidMore
import Derived.Stop.Joined
import Derived.SizedLaws
import Derived.ChangeOld
import Derived.Deep.LoopGhost
section
namespace Go.Proofs.YtcopjbapglndgaaGreatDoor
open Go.ChangeShapes Go.WideShapes Go.ChangeAt Go.RowKit Go.Joins
set_option linter.unusedVariables false

theorem ret_u32 {a b : Nat} (h : a = b) : Ending.returned (.int .u32 (a : Int)) = .returned (.int .u32 (b : Int)) := by rw [h]
theorem ret_u64 {a b : Nat} (h : a = b) : Ending.returned (.int .u64 (a : Int)) = .returned (.int .u64 (b : Int)) := by rw [h]
theorem xor32 (a b : Nat) (ha : a < 4294967296) (hb : b < 4294967296) : bits .xor .u32 (a : Int) (b : Int) = ((a ^^^ b : Nat) : Int) := u32_xor_nat a b ha hb
theorem xor64u (a b : Nat) (ha : a < 4294967296) (hb : b < 4294967296) : bits .xor .u64 (a : Int) (b : Int) = ((a ^^^ b : Nat) : Int) := u64_xor_nat a b (by omega) (by omega)
theorem and64u (a : Nat) (ha : a < 18446744073709551616) : bits .and .u64 (a : Int) 4294967295 = ((a % 4294967296 : Nat) : Int) := by
  have := u64_and_nat a 4294967295 ha (by omega)
  rw [show a &&& 4294967295 = a % 4294967296 from Nat.and_two_pow_sub_one_eq_mod a 32] at this
  exact this

theorem following_any (x : Nat) (hx : x < 4294967296) (w : World) :
    Calls Tryz.prog 133 #[.int .u32 (x : Int)] w fun e w' => e = .returned (.int .u32 ((nextN x : Nat) : Int)) ∧ w = w' := by
  have h1 := up13_lt hx
  have h2 := dn17_lt h1
  have e1 : bits .xor .u32 (x : Int) ((x : Int) * 8192 % 4294967296) = ((up13 x : Nat) : Int) := xor32 x (x * 8192 % 4294967296) hx (Nat.mod_lt _ (by omega))
  have HN : Hid (nextN x = up5 (dn17 (up13 x))) := rfl
  generalize up13 x = y at *
  have e2 : bits .xor .u32 (y : Int) ((y : Int) / 131072) = ((dn17 y : Nat) : Int) := xor32 y (y / 131072) h1 (by omega)
  generalize dn17 y = z at *
  have e3 : bits .xor .u32 (z : Int) ((z : Int) * 32 % 4294967296) = ((up5 z : Nat) : Int) := xor32 z (z * 32 % 4294967296) h2 (Nat.mod_lt _ (by omega))
  go_enter Tryz.func133, Tryz.ntmps133
  go_wp2
  go_ret
  exact ⟨ret_u32 HN.out.symm, rfl⟩

theorem refNext_any (x : Nat) (hx : x < 4294967296) (w : World) :
    Calls Tryz.prog 59 #[.int .u64 (x : Int)] w fun e w' => e = .returned (.int .u64 ((nextN x : Nat) : Int)) ∧ w = w' := by
  have h1 := up13_lt hx
  have h2 := dn17_lt h1
  have a1 : bits .and .u64 ((x : Int) * 8192) 4294967295 = ((x * 8192 % 4294967296 : Nat) : Int) := and64u (x * 8192) (by omega)
  have e1 : bits .xor .u64 (x : Int) ((x * 8192 % 4294967296 : Nat) : Int) = ((up13 x : Nat) : Int) := xor64u x (x * 8192 % 4294967296) hx (Nat.mod_lt _ (by omega))
  have HN : Hid (nextN x = up5 (dn17 (up13 x))) := rfl
  generalize up13 x = y at *
  have e2 : bits .xor .u64 (y : Int) ((y : Int) / 131072) = ((dn17 y : Nat) : Int) := xor64u y (y / 131072) h1 (by omega)
  generalize dn17 y = z at *
  have a3 : bits .and .u64 ((z : Int) * 32) 4294967295 = ((z * 32 % 4294967296 : Nat) : Int) := and64u (z * 32) (by omega)
  have e3 : bits .xor .u64 (z : Int) ((z * 32 % 4294967296 : Nat) : Int) = ((up5 z : Nat) : Int) := xor64u z (z * 32 % 4294967296) h2 (Nat.mod_lt _ (by omega))
  generalize x * 8192 % 4294967296 = p at *
  generalize z * 32 % 4294967296 = q at *
  go_enter Tryz.func59, Tryz.ntmps59
  go_wp2
  go_ret
  exact ⟨ret_u64 HN.out.symm, rfl⟩

theorem refBegin_any (s : Nat) (hs : s < 4294967296) (w : World) :
    Calls Tryz.prog 60 #[.int .u32 (s : Int)] w fun e w' => e = .returned (.int .u64 ((beginN s : Nat) : Int)) ∧ w = w' := by
  have e1 : bits .xor .u64 (s : Int) 2654435769 = ((s ^^^ 2654435769 : Nat) : Int) := xor64u s 2654435769 hs (by omega)
  have hx : s ^^^ 2654435769 < 4294967296 := Nat.xor_lt_two_pow (n := 32) hs (by omega)
  have HB : Hid (beginN s = if s ^^^ 2654435769 = 0 then 1 else s ^^^ 2654435769) := rfl
  generalize s ^^^ 2654435769 = x at *
  by_cases h0 : x = 0
  · have HV : Hid (beginN s = 1) := by rw [HB.out, if_pos h0]; rfl
    have hz : ((x : Int) == 0) = true := by subst h0; rfl
    clear h0
    go_enter Tryz.func60, Tryz.ntmps60
    go_wp2
    go_ret
    exact ⟨ret_u64 HV.out.symm, rfl⟩
  · have HV : Hid (beginN s = x) := by rw [HB.out, if_neg h0]; rfl
    have hz : ((x : Int) == 0) = false := by simpa using h0
    clear h0
    go_enter Tryz.func60, Tryz.ntmps60
    go_wp2
    go_ret
    exact ⟨ret_u64 HV.out.symm, rfl⟩

/-- A Rand: a block of one number. -/
structure RSt (w : World) (B : Nat) (x : Nat) : Prop where
  blk : w.heap[B]? = some (.cells #[.int .u32 (x : Int)] 165 (0, 0))
theorem RSt.cell {w : World} {B x : Nat} (h : RSt w B x) : w.cell? ⟨B, 0, none⟩ = some (.int .u32 (x : Int)) := (cell_of_row w B 0 _ _ (0, 0) h.blk).trans rfl
theorem RSt.loose {w : World} {B x : Nat} (h : RSt w B x) : w.frozen? ⟨B, 0, none⟩ = false := unfrozen_of_block h.blk 0
theorem RSt.lt {w : World} {B x : Nat} (h : RSt w B x) : B < w.heap.size := (Array.getElem?_eq_some_iff.1 h.blk).1
theorem RSt.set {w : World} {B x : Nat} (h : RSt w B x) (y : Nat) : RSt (w.setCell ⟨B, 0, none⟩ (.int .u32 (y : Int))) B y := ⟨by rw [heap_setCell_same w B 0 _ _ _ h.blk]; rfl⟩
/-- Nothing but block B has turned. -/
structure ROnly (B : Nat) (w w' : World) : Prop where
  os : w'.os = w.os
  tape : w'.tape = w.tape
  output : w'.output = w.output
  size : w'.heap.size = w.heap.size
  block : ∀ k, k ≠ B → w'.heap[k]? = w.heap[k]?
theorem ROnly.refl (B : Nat) (w : World) : ROnly B w w := ⟨rfl, rfl, rfl, rfl, fun _ _ => rfl⟩
theorem ROnly.trans {B : Nat} {a b c : World} (h : ROnly B a b) (k : ROnly B b c) : ROnly B a c := ⟨k.os.trans h.os, k.tape.trans h.tape, k.output.trans h.output, k.size.trans h.size, fun i hi => (k.block i hi).trans (h.block i hi)⟩
theorem ROnly.set (B i : Nat) (w : World) (v : Value) : ROnly B w (w.setCell ⟨B, i, none⟩ v) := ⟨rfl, rfl, rfl, by simp, fun k hk => heap_setCell_other w _ k v hk⟩
theorem ROnly.below {B k : Nat} {w w' : World} (h : ROnly B w w') (hk : k ≤ B) : Below k w w' := ⟨h.os, h.tape, h.output, by rw [h.size]; exact Nat.le_refl _, fun i hi => h.block i (by omega)⟩

theorem next_any {w : World} {B x : Nat} (hx : x < 4294967296) (h : RSt w B x) :
    Calls Tryz.prog 126 #[.pointer (some ⟨B, 0, none⟩)] w fun e w' => e = .returned (.int .u32 ((nextN x : Nat) : Int)) ∧ RSt w' B (nextN x) ∧ ROnly B w w' := by
  have c0 := h.cell
  have f0 := h.loose
  have HS := Lib.hid (h.set (nextN x))
  have ef := fun w => following_any x hx w
  clear h
  generalize nextN x = y at *
  go_enter Tryz.func126, Tryz.ntmps126
  go_wp2_with (go_at_call 133; refine (ef _).mono ?_; rintro e w' ⟨rfl, rfl⟩)
  go_ret
  exact ⟨rfl, HS.out, ROnly.set _ _ _ _⟩

theorem next_nil (w : World) : Calls Tryz.prog 126 #[.pointer none] w fun e w' => e = .returned (.int .u32 0) ∧ w = w' := by
  go_enter Tryz.func126, Tryz.ntmps126
  go_wp2_with fail
  go_ret
  exact ⟨rfl, rfl⟩

theorem below_nil (n : Int) (w : World) : Calls Tryz.prog 118 #[.pointer none, .int .i64 n] w fun e w' => e = .returned (.int .i64 0) ∧ w = w' := by
  go_enter Tryz.func118, Tryz.ntmps118
  go_wp2_with fail
  go_ret
  exact ⟨rfl, rfl⟩
theorem degree_nil (n : Int) (w : World) : Calls Tryz.prog 116 #[.pointer none, .int .i64 n] w fun e w' => e = .returned (.int .i64 0) ∧ w = w' := by
  go_enter Tryz.func116, Tryz.ntmps116
  go_wp2_with fail
  go_ret
  exact ⟨rfl, rfl⟩
theorem below_none (n : Int) (B : Nat) (hn : n < 1) (w : World) : Calls Tryz.prog 118 #[.pointer (some ⟨B, 0, none⟩), .int .i64 n] w fun e w' => e = .returned (.int .i64 0) ∧ w = w' := by
  go_enter Tryz.func118, Tryz.ntmps118
  go_wp2_with fail
  go_ret
  exact ⟨rfl, rfl⟩
theorem ret_i64 {a b : Int} (h : a = b) : Ending.returned (.int .i64 a) = .returned (.int .i64 b) := by rw [h]
theorem below_some {w : World} {B x : Nat} (n : Int) (hx : x < 4294967296) (h : RSt w B x) (hn : 1 ≤ n) (hm : n ≤ 9223372036854775807) :
    Calls Tryz.prog 118 #[.pointer (some ⟨B, 0, none⟩), .int .i64 n] w fun e w' => e = .returned (.int .i64 ((nextN x : Int) % n)) ∧ RSt w' B (nextN x) ∧ ROnly B w w' := by
  have e1 := next_any hx h
  have hy := nextN_lt hx
  clear h
  generalize nextN x = y at *
  have hz : 0 ≤ (y : Int) % n := Int.emod_nonneg _ (by omega)
  have hz2 : (y : Int) % n < 4294967296 := by
    have h1 : (y : Int) % n ≤ y := by
      obtain ⟨m, rfl⟩ : ∃ m : Nat, n = (m : Int) := ⟨n.toNat, by omega⟩
      have := Nat.mod_le y m
      rw [← Int.natCast_emod]
      omega
    omega
  have hn0 : n ≠ 0 := by omega
  obtain ⟨z, hzz⟩ : ∃ z, (y : Int) % n = z := ⟨_, rfl⟩
  rw [hzz] at hz hz2 ⊢
  have hlt : n < 18446744073709551616 := by omega
  go_enter Tryz.func118, Tryz.ntmps118
  go_wp2_with (go_at_call 126; refine e1.mono ?_; rintro e w1 ⟨rfl, h1, h2⟩)
  go_ret
  exact ⟨rfl, h1, h2⟩

set_option maxRecDepth 100000 in
theorem degree0_any (d : Nat) (hd : d < 1024) (w : World) : Calls Tryz.prog 125 #[.int .u32 (d : Int)] w fun e w' => e = .returned (.int .i64 ((degN d : Nat) : Int)) ∧ w = w' := by
  have HD : Hid (degN d = if d < 16 then 1 else if d < 528 then 2 else if d < 696 then 3 else if d < 780 then 4 else if d < 860 then 6 else if d < 930 then 10 else if d < 980 then 18 else 34) := rfl
  generalize degN d = D at *
  by_cases h1 : d < 16
  · have HV : Hid (D = 1) := by rw [HD.out, if_pos h1]; rfl
    go_enter Tryz.func125, Tryz.ntmps125
    go_wp2_with fail
    go_ret
    exact ⟨ret_i64 (by rw [HV.out]; rfl), rfl⟩
  by_cases h2 : d < 528
  · have HV : Hid (D = 2) := by rw [HD.out, if_neg h1, if_pos h2]; rfl
    go_enter Tryz.func125, Tryz.ntmps125
    go_wp2_with fail
    go_ret
    exact ⟨ret_i64 (by rw [HV.out]; rfl), rfl⟩
  by_cases h3 : d < 696
  · have HV : Hid (D = 3) := by rw [HD.out, if_neg h1, if_neg h2, if_pos h3]; rfl
    go_enter Tryz.func125, Tryz.ntmps125
    go_wp2_with fail
    go_ret
    exact ⟨ret_i64 (by rw [HV.out]; rfl), rfl⟩
  by_cases h4 : d < 780
  · have HV : Hid (D = 4) := by rw [HD.out, if_neg h1, if_neg h2, if_neg h3, if_pos h4]; rfl
    go_enter Tryz.func125, Tryz.ntmps125
    go_wp2_with fail
    go_ret
    exact ⟨ret_i64 (by rw [HV.out]; rfl), rfl⟩
  by_cases h5 : d < 860
  · have HV : Hid (D = 6) := by rw [HD.out, if_neg h1, if_neg h2, if_neg h3, if_neg h4, if_pos h5]; rfl
    go_enter Tryz.func125, Tryz.ntmps125
    go_wp2_with fail
    go_ret
    exact ⟨ret_i64 (by rw [HV.out]; rfl), rfl⟩
  by_cases h6 : d < 930
  · have HV : Hid (D = 10) := by rw [HD.out, if_neg h1, if_neg h2, if_neg h3, if_neg h4, if_neg h5, if_pos h6]; rfl
    go_enter Tryz.func125, Tryz.ntmps125
    go_wp2_with fail
    go_ret
    exact ⟨ret_i64 (by rw [HV.out]; rfl), rfl⟩
  by_cases h7 : d < 980
  · have HV : Hid (D = 18) := by rw [HD.out, if_neg h1, if_neg h2, if_neg h3, if_neg h4, if_neg h5, if_neg h6, if_pos h7]; rfl
    go_enter Tryz.func125, Tryz.ntmps125
    go_wp2_with fail
    go_ret
    exact ⟨ret_i64 (by rw [HV.out]; rfl), rfl⟩
  have HV : Hid (D = 34) := by rw [HD.out, if_neg h1, if_neg h2, if_neg h3, if_neg h4, if_neg h5, if_neg h6, if_neg h7]; rfl
  go_enter Tryz.func125, Tryz.ntmps125
  go_wp2_with fail
  go_ret
  exact ⟨ret_i64 (by rw [HV.out]; rfl), rfl⟩

theorem degree_any {w : World} {B x : Nat} (n : Int) (hx : x < 4294967296) (h : RSt w B x) :
    Calls Tryz.prog 116 #[.pointer (some ⟨B, 0, none⟩), .int .i64 n] w fun e w' => e = .returned (.int .i64 (capI (degN (nextN x % 1024)) n)) ∧ RSt w' B (nextN x) ∧ ROnly B w w' := by
  have e1 := next_any hx h
  have hy := nextN_lt hx
  clear h
  generalize nextN x = y at *
  have hz : y % 1024 < 1024 := Nat.mod_lt _ (by omega)
  have he : (y : Int) % 1024 = ((y % 1024 : Nat) : Int) := rfl
  generalize y % 1024 = z at *
  have e2 := fun w => degree0_any z hz w
  have hd := degN_le z
  generalize degN z = d at *
  by_cases hc : (d : Int) < n
  · have HC : Hid (capI d n = d) := by show _ = _; unfold capI; omega
    by_cases hd1 : d = 1
    · subst hd1
      go_enter Tryz.func116, Tryz.ntmps116
      go_wp2_with (first | (go_at_call 126; refine e1.mono ?_; rintro e w1 ⟨rfl, h1, h2⟩) | (go_at_call 125; refine (e2 _).mono ?_; rintro e w1 ⟨rfl, rfl⟩))
      go_ret
      exact ⟨by first | exact ret_i64 HC.out.symm | rfl, h1, h2⟩
    · have hd2 : 1 < (d : Int) := by omega
      go_enter Tryz.func116, Tryz.ntmps116
      go_wp2_with (first | (go_at_call 126; refine e1.mono ?_; rintro e w1 ⟨rfl, h1, h2⟩) | (go_at_call 125; refine (e2 _).mono ?_; rintro e w1 ⟨rfl, rfl⟩))
      go_ret
      exact ⟨by first | exact ret_i64 HC.out.symm | rfl, h1, h2⟩
  · have hc2 : n ≤ (d : Int) := by omega
    clear hc
    by_cases h1n : 1 < n
    · have HC : Hid (capI d n = n) := by show _ = _; unfold capI; omega
      go_enter Tryz.func116, Tryz.ntmps116
      go_wp2_with (first | (go_at_call 126; refine e1.mono ?_; rintro e w1 ⟨rfl, h1, h2⟩) | (go_at_call 125; refine (e2 _).mono ?_; rintro e w1 ⟨rfl, rfl⟩))
      go_ret
      exact ⟨by first | exact ret_i64 HC.out.symm | rfl, h1, h2⟩
    · have h2n : n ≤ 1 := by omega
      have HC : Hid (capI d n = 1) := by show _ = _; unfold capI; omega
      go_enter Tryz.func116, Tryz.ntmps116
      go_wp2_with (first | (go_at_call 126; refine e1.mono ?_; rintro e w1 ⟨rfl, h1, h2⟩) | (go_at_call 125; refine (e2 _).mono ?_; rintro e w1 ⟨rfl, rfl⟩))
      go_ret
      exact ⟨by first | exact ret_i64 HC.out.symm | rfl, h1, h2⟩

theorem new_any (s : Nat) (hs : s < 4294967296) (w : World) :
    Calls Tryz.prog 107 #[.int .u32 (s : Int)] w fun e w' => e = .returned (.pointer (some ⟨w.heap.size, 0, none⟩)) ∧ RSt w' w.heap.size (beginN s) ∧ Below w.heap.size w w' ∧ w'.heap.size = w.heap.size + 1 := by
  have e1 : bits .xor .u32 (s : Int) 2654435769 = ((s ^^^ 2654435769 : Nat) : Int) := xor32 s 2654435769 hs (by omega)
  have hx : s ^^^ 2654435769 < 4294967296 := Nat.xor_lt_two_pow (n := 32) hs (by omega)
  have HB : Hid (beginN s = if s ^^^ 2654435769 = 0 then 1 else s ^^^ 2654435769) := rfl
  generalize s ^^^ 2654435769 = x at *
  by_cases h0 : x = 0
  · have HV : Hid (beginN s = 1) := by rw [HB.out, if_pos h0]; rfl
    have hz : ((x : Int) == 0) = true := by subst h0; rfl
    clear h0
    go_enter Tryz.func107, Tryz.ntmps107
    go_wp2
    go_ret
    rw [HV.out]
    exact ⟨rfl, ⟨heap_alloc_last w _⟩, (Below.refl _ _).alloc (Nat.le_refl _) _, by simp⟩
  · have HV : Hid (beginN s = x) := by rw [HB.out, if_neg h0]; rfl
    have hz : ((x : Int) == 0) = false := by simpa using h0
    clear h0
    go_enter Tryz.func107, Tryz.ntmps107
    go_wp2
    go_ret
    rw [HV.out]
    exact ⟨rfl, ⟨heap_alloc_last w _⟩, (Below.refl _ _).alloc (Nat.le_refl _) _, by simp⟩

set_option maxRecDepth 100000 in
set_option maxHeartbeats 400000 in
theorem refDegree_any (d : Nat) (n : Int) (hd : d < 1024) (w : World) : Calls Tryz.prog 62 #[.int .u64 (d : Int), .int .i64 n] w fun e w' => e = .returned (.int .i64 (capI (degN d) n)) ∧ w = w' := by
  have HD : Hid (degN d = if d < 16 then 1 else if d < 528 then 2 else if d < 696 then 3 else if d < 780 then 4 else if d < 860 then 6 else if d < 930 then 10 else if d < 980 then 18 else 34) := rfl
  have HK : Hid (∀ D : Nat, degN d = D → ∀ v : Int, v = max 1 (min n (D : Int)) → v = capI (degN d) n) := by
    intro D h v hv
    subst h
    exact hv
  generalize degN d = D at *
  by_cases h1 : d < 16
  · have HV : Hid (D = 1) := by rw [HD.out, if_pos h1]; rfl
    clear HD
    go_enter Tryz.func62, Tryz.ntmps62
    go_wp2_with fail
    all_goals
      go_ret
      exact ⟨ret_i64 (HK.out _ HV.out _ (by omega)), rfl⟩
  by_cases h2 : d < 528
  · have HV : Hid (D = 2) := by rw [HD.out, if_neg h1, if_pos h2]; rfl
    clear HD
    go_enter Tryz.func62, Tryz.ntmps62
    go_wp2_with fail
    all_goals
      go_ret
      exact ⟨ret_i64 (HK.out _ HV.out _ (by omega)), rfl⟩
  by_cases h3 : d < 696
  · have HV : Hid (D = 3) := by rw [HD.out, if_neg h1, if_neg h2, if_pos h3]; rfl
    clear HD
    go_enter Tryz.func62, Tryz.ntmps62
    go_wp2_with fail
    all_goals
      go_ret
      exact ⟨ret_i64 (HK.out _ HV.out _ (by omega)), rfl⟩
  by_cases h4 : d < 780
  · have HV : Hid (D = 4) := by rw [HD.out, if_neg h1, if_neg h2, if_neg h3, if_pos h4]; rfl
    clear HD
    go_enter Tryz.func62, Tryz.ntmps62
    go_wp2_with fail
    all_goals
      go_ret
      exact ⟨ret_i64 (HK.out _ HV.out _ (by omega)), rfl⟩
  by_cases h5 : d < 860
  · have HV : Hid (D = 6) := by rw [HD.out, if_neg h1, if_neg h2, if_neg h3, if_neg h4, if_pos h5]; rfl
    clear HD
    go_enter Tryz.func62, Tryz.ntmps62
    go_wp2_with fail
    all_goals
      go_ret
      exact ⟨ret_i64 (HK.out _ HV.out _ (by omega)), rfl⟩
  by_cases h6 : d < 930
  · have HV : Hid (D = 10) := by rw [HD.out, if_neg h1, if_neg h2, if_neg h3, if_neg h4, if_neg h5, if_pos h6]; rfl
    clear HD
    go_enter Tryz.func62, Tryz.ntmps62
    go_wp2_with fail
    all_goals
      go_ret
      exact ⟨ret_i64 (HK.out _ HV.out _ (by omega)), rfl⟩
  by_cases h7 : d < 980
  · have HV : Hid (D = 18) := by rw [HD.out, if_neg h1, if_neg h2, if_neg h3, if_neg h4, if_neg h5, if_neg h6, if_pos h7]; rfl
    clear HD
    go_enter Tryz.func62, Tryz.ntmps62
    go_wp2_with fail
    all_goals
      go_ret
      exact ⟨ret_i64 (HK.out _ HV.out _ (by omega)), rfl⟩
  have HV : Hid (D = 34) := by rw [HD.out, if_neg h1, if_neg h2, if_neg h3, if_neg h4, if_neg h5, if_neg h6, if_neg h7]; rfl
  clear HD
  go_enter Tryz.func62, Tryz.ntmps62
  go_wp2_with fail
  all_goals
    go_ret
    exact ⟨ret_i64 (HK.out _ HV.out _ (by omega)), rfl⟩

end Go.Proofs.YtcopjbapglndgaaGreatDoor
end

section
namespace Go.Proofs.YtcopjbapglndgaaGreatDoor
open Go.ChangeShapes Go.WideShapes Go.ChangeAt Go.RowKit Go.Joins
set_option linter.unusedVariables false

/-- A slice of ints that reads as ks. -/
structure Is (w : World) (a : Option Addr) (cap : Nat) (ks : List Int) : Prop where
  rng : ∀ x ∈ ks, -9223372036854775808 ≤ x ∧ x ≤ 9223372036854775807
  len : ks.length ≤ cap
  most : cap ≤ maxLen
  none : a = none → ks = [] ∧ cap = 0
  here : ks = [] ∨ ∃ b off, a = some ⟨b, off, Option.none⟩ ∧ b < w.heap.size ∧ ∀ i (h : i < ks.length), w.cell? ⟨b, off + i, Option.none⟩ = some (.int .i64 ks[i])
theorem Is.lt {w : World} {a : Option Addr} {cap : Nat} {ks : List Int} (h : Is w a cap ks) : ks.length ≤ 9223372036854775807 := by
  have h1 := h.len; have h2 := h.most; unfold maxLen at h2; omega
theorem Is.some {w : World} {a : Option Addr} {cap : Nat} {ks : List Int} (h : Is w a cap ks) {k : Nat} (hk : k < ks.length) :
    ∃ b off, a = some ⟨b, off, Option.none⟩ ∧ b < w.heap.size ∧ w.cell? ⟨b, off + k, Option.none⟩ = some (.int .i64 ks[k]) := by
  rcases h.here with rfl | ⟨b, off, e, hb, hc⟩
  · simp at hk
  · exact ⟨b, off, e, hb, hc k hk⟩
theorem Is.below {w w' : World} {a : Option Addr} {cap : Nat} {ks : List Int} (h : Is w a cap ks) (k : Below w.heap.size w w') : Is w' a cap ks :=
  ⟨h.rng, h.len, h.most, h.none, by
    rcases h.here with e | ⟨b, off, e, hb, hc⟩
    · exact .inl e
    · exact .inr ⟨b, off, e, Nat.lt_of_lt_of_le hb k.size, fun i hi => by rw [k.cell (p := ⟨b, off + i, Option.none⟩) hb]; exact hc i hi⟩⟩

theorem cellsI : Tryz.prog.cellsOf 3 = 1 := by kernel_rfl

/-- A list of ints that came in. -/
theorem ints_in {H : Type} {enc : TypeId × Value → H} {w : World} {base fuel : Nat} {spare : Nat → Bool} {held : Bool} {c : Value} {x : DataW H × List MemPlace}
    (h : DataW.trod enc Tryz.prog w base spare held fuel 77 [c] = some x) :
    ∃ (a : Option Addr) (cap : Nat) (l : List Int), c = .slice a l.length cap ∧ Is w a cap l := by
  rcases open_ints Tryz.underlying77 Tryz.underlying3 cellsI h with ⟨hcs, hx⟩ | ⟨a, len, cap, zs, hcs, _, hl, hm, hz, hx, hcell, hwz⟩
  · simp only [List.cons.injEq, and_true] at hcs
    exact ⟨none, 0, [], hcs, ⟨by simp, by simp, by unfold maxLen; omega, fun _ => ⟨rfl, rfl⟩, .inl rfl⟩⟩
  · simp only [List.cons.injEq, and_true] at hcs
    have hlz : len ≤ zs.length := by rw [hz]; split <;> omega
    have hll : (zs.take len).length = len := by simp; omega
    refine ⟨some a, cap, zs.take len, by rw [hll]; exact hcs, fun n hn => ?_, by omega, hm, fun e => (by cases e), ?_⟩
    · have := hwz n (List.mem_of_mem_take hn)
      simpa [Lit.wf, IntKind.min, IntKind.max, IntKind.signed, IntKind.bits] using this
    · by_cases h0 : len = 0
      · exact .inl (List.length_eq_zero_iff.1 (by omega))
      · obtain ⟨b, off, spot⟩ := a
        have hc0 := hcell 0 (by omega)
        have hspot : spot = none := by simpa [Addr.add] using World.cell?_spot hc0
        subst hspot
        have hbl : b < w.heap.size := by
          exact World.block_lt_of_cell? w _ hc0
        refine .inr ⟨b, off, rfl, hbl, fun i hi => ?_⟩
        have hi2 : i < len := by omega
        have hci := hcell i (by omega)
        have e : zs.getD i 0 = (zs.take len)[i] := by simp [List.getD, show i < zs.length by omega]
        rw [e] at hci
        rw [← hci]
        by_cases hi0 : i = 0
        · subst hi0; simp [Addr.add]
        · simp [Addr.add, hi0]
end Go.Proofs.YtcopjbapglndgaaGreatDoor
end

section
namespace Go.Proofs.YtcopjbapglndgaaGreatDoor
open Go.ChangeShapes Go.WideShapes Go.ChangeAt Go.RowKit Go.Joins
set_option linter.unusedVariables false

theorem seed_any (k i : Nat) (hk : k < 65536) (hi : i < 4294967296) (w : World) : Calls Tryz.prog 108 #[.int .i64 (k : Int), .int .u32 (i : Int)] w fun e w' => e = .returned (.int .u32 ((seedN k i : Nat) : Int)) ∧ w = w' := by
  have HV : Hid (((i : Int) * 2654435761 % 4294967296 + (k : Int) * 40503) % 4294967296 = ((seedN k i : Nat) : Int)) := by
    show _ = _; unfold seedN; omega
  go_enter Tryz.func108, Tryz.ntmps108
  go_wp2_with fail
  go_ret
  rw [← HV.out]
  exact ⟨rfl, rfl⟩
theorem refSeed_any (k i : Nat) (hk : k < 65536) (hi : i < 4294967296) (w : World) : Calls Tryz.prog 61 #[.int .i64 (k : Int), .int .u32 (i : Int)] w fun e w' => e = .returned (.int .u32 ((seedN k i : Nat) : Int)) ∧ w = w' := by
  have HV : Hid (((i : Int) * 2654435761 + (k : Int) * 40503) % 4294967296 = ((seedN k i : Nat) : Int)) := by
    show _ = _; unfold seedN; omega
  go_enter Tryz.func61, Tryz.ntmps61
  go_wp2_with fail
  go_ret
  rw [← HV.out]
  exact ⟨rfl, rfl⟩

/-- What holds at each round's head. -/
def GoesAt (W : World) (B : Nat) (y : Nat) (w : World) : Prop := y < 4294967296 ∧ RSt w B y ∧ Below W.heap.size W w

end Go.Proofs.YtcopjbapglndgaaGreatDoor
end

section
namespace Go.Proofs.YtcopjbapglndgaaGreatDoor
open Go.ChangeShapes Go.WideShapes Go.ChangeAt Go.RowKit Go.Joins
set_option linter.unusedVariables false

theorem tmod_two (i s : Nat) : ((i : Int) + 1).tmod (s : Int) = (((i + 1) % s : Nat) : Int) ∧ ((i : Int) + 1) % (s : Int) = (((i + 1) % s : Nat) : Int) :=
  ⟨by rw [Int.tmod_eq_emod_of_nonneg (by omega)]; rfl, rfl⟩

set_option maxHeartbeats 400000 in
theorem free_any (a : Option Addr) (cap : Nat) (l : List Nat) (p : Nat) (w : World) (hl : l.length ≤ 1000000) (hs : Sl w a cap l) (hp : p < l.length) (hf : FreeIn l p l.length) :
    Calls Tryz.prog 117 #[.slice a l.length cap, .int .i64 (p : Int)] w fun e w' => e = .returned (.int .i64 ((goN l p l.length : Nat) : Int)) ∧ w = w' := by
  obtain ⟨b, off, rfl, hb⟩ := hs.some hp
  have HB := Lib.hid hb
  have HF := Lib.hid hf
  have HY := Lib.hid hs.byte
  obtain ⟨R, hR⟩ : ∃ R, goN l p l.length = R := ⟨_, rfl⟩
  rw [hR]
  have HR : Hid (goN l p l.length = R) := hR
  clear hR hs hb hf
  go_enter Tryz.func117, Tryz.ntmps117
  go_wp2_with fail
  go_loopg [1] l.length (fun gg i wi => ∃ q : Nat, q < l.length ∧ i = .int .i64 q ∧ Hid (FreeIn l q gg) ∧ Hid (goN l q gg = R) ∧ wi = w)
  case atStart => exact ⟨p, hp, rfl, HF, HR, rfl⟩
  case round =>
    obtain ⟨q, hq, rfl, HQ, HG, rfl⟩ := hrel
    have hck := HB.out q hq
    have hx : l[q] < 256 := HY.out _ (List.getElem_mem hq)
    obtain ⟨e1, e2⟩ := tmod_two q l.length
    have hm := Nat.mod_lt (q + 1) (show 0 < l.length by omega)
    have hz : ((l.length : Int) == 0) = false := by rw [beq_eq_false_iff_ne]; omega
    have hz2 : ¬ ((l.length : Int) = 0) := by omega
    have hpos : 0 < gk := FreeIn.pos HQ.out
    obtain ⟨f, rfl⟩ : ∃ f, gk = f + 1 := ⟨gk - 1, by omega⟩
    have HD : Hid (l.getD q 0 = l[q]) := getD_get hq
    have HZ : Hid (l[q] = 0 → R = q) := fun e => by
      rw [← HG.out]; unfold goN; rw [if_pos (by rw [HD.out]; exact e)]
    have HN : Hid (l[q] ≠ 0 → FreeIn l ((q + 1) % l.length) f ∧ goN l ((q + 1) % l.length) f = R) := fun e => by
      refine ⟨HQ.out.next hq (by rw [HD.out]; exact e), ?_⟩
      rw [← HG.out]
      conv => rhs; unfold goN
      rw [if_neg (by rw [HD.out]; exact e)]
    clear HQ HG HD
    generalize l[q] = x at *
    by_cases hx0 : x = 0
    · have hzx : ((x : Int) != 0) = false := by subst hx0; rfl
      have HE := Lib.hid (HZ.out hx0)
      clear HZ HN hx0 e1 e2
      go_wp2_with fail
      go_ret
      exact ⟨by rw [HE.out]; rfl, rfl⟩
    · have hzx : ((x : Int) != 0) = true := by simp; omega
      have HE := Lib.hid (HN.out hx0)
      clear HZ HN hx0
      generalize (q + 1) % l.length = q2 at *
      go_wp2_with fail
      go_roundg f
      case rel => exact ⟨q2, hm, rfl, HE.out.1, HE.out.2, rfl⟩
      case measure => omega

theorem RSt.alloc {w : World} {B x : Nat} (h : RSt w B x) (o : Obj) : RSt (w.alloc o) B x := ⟨(heap_alloc_old w o h.lt).trans h.blk⟩
theorem Row.only {w w' : World} {B g : Nat} {ty : TypeId} {n k : Nat} {f : Nat → Value} (h : Row w g ty n k f) (k' : ROnly B w w') (hne : g ≠ B) : Row w' g ty n k f := by
  obtain ⟨cs, h1, h2, h3⟩ := h
  exact ⟨cs, by rw [k'.block _ hne]; exact h1, h2, h3⟩
theorem Row.set_at {w : World} {g n : Nat} {l : List Nat} (h : Row w g 5 n n (vOf l)) (hl : l.length = n) {k : Nat} (hk : k < n) (v : Nat) : Row (w.setCell ⟨g, k, none⟩ (.int .u8 (v : Int))) g 5 n n (vOf (l.set k v)) :=
  (h.upd k hk _).mono (Nat.le_refl _) fun j hj => by
    have hjs : j < (l.set k v).length := by rw [List.length_set]; omega
    by_cases e : j = k
    · subst e
      rw [if_pos rfl, vOf_eq _ _ hjs, List.getElem_set_self]
    · rw [if_neg e, vOf_eq _ _ hjs, List.getElem_set_ne (Ne.symm e), vOf_eq _ _ (by omega)]
theorem capI_nat (d n : Nat) (h1 : 1 ≤ n) : ∃ D : Nat, capI d (n : Int) = (D : Int) ∧ D ≤ n ∧ (capI d (n : Int)).toNat = D := by
  refine ⟨(capI d (n : Int)).toNat, ?_, ?_, rfl⟩ <;> unfold capI <;> omega

/-- While places are drawn: the Rand, the numbers, all else. -/
structure DrawAt (W : World) (B g n : Nat) (wr : World) (y : Nat) (l : List Nat) : Prop where
  st : RSt wr B y
  row : Row wr g 5 n n (vOf l)
  below : Below W.heap.size W wr
theorem DrawAt.only {W : World} {B g n : Nat} {w w' : World} {y z : Nat} {l : List Nat} (h : DrawAt W B g n w y l) (hs : RSt w' B z) (k : ROnly B w w') (hB : W.heap.size ≤ B) (hne : g ≠ B) : DrawAt W B g n w' z l :=
  ⟨hs, h.row.only k hne, h.below.trans (k.below hB)⟩
theorem DrawAt.set {W : World} {B g n : Nat} {w : World} {y : Nat} {l : List Nat} (h : DrawAt W B g n w y l) (hl : l.length = n) {k : Nat} (hk : k < n) (v : Nat) (hg : W.heap.size ≤ g) (hne : B ≠ g) : DrawAt W B g n (w.setCell ⟨g, k, none⟩ (.int .u8 (v : Int))) y (l.set k v) :=
  ⟨⟨(Below.heap_setCell _ _ _ _ hne).trans h.st.blk⟩, h.row.set_at hl hk v, h.below.setCell hg _⟩

def DrawPost (W : World) (l : List Nat) (n : Nat) (e : Ending) (w' : World) : Prop :=
  ∃ g, e = .returned (.slice (some ⟨g, 0, none⟩) n n) ∧ Sl w' (some ⟨g, 0, none⟩) n l ∧ Below W.heap.size W w'

set_option maxHeartbeats 1000000 in
theorem draw_any (W w : World) (B x n : Nat) (hx : x < 4294967296) (h : RSt w B x) (hW : Below W.heap.size W w) (hB : W.heap.size ≤ B) (h1 : 1 ≤ n) (hn : n ≤ 1000) :
    Calls Tryz.prog 106 #[.pointer (some ⟨B, 0, none⟩), .int .i64 (n : Int)] w (DrawPost W (drawnN x n) n) := by
  have hmk := make_row n (by omega) w
  have hlt := h.lt
  have hx1 := nextN_lt hx
  have hs0 := h.alloc (.cells (rowArr n zV) 5)
  have E0 := Lib.hid (degree_any (n : Int) hx hs0)
  obtain ⟨D, hD, hDn, hDt⟩ := capI_nat (degN (nextN x % 1024)) n h1
  have HDR : Hid (drawnN x n = (drawD (nextN x) n D).2) := by show _ = _; unfold drawnN; rw [hDt]
  rw [hD] at E0
  have HR0 : Hid (Row (w.alloc (.cells (rowArr n zV) 5)) w.heap.size 5 n n (vOf (List.replicate n 0))) := (Row.new_whole w _ 5 (vOf (List.replicate n 0)) _ _ rfl (zeros_arr n))
  have HBA : Hid (Below W.heap.size W (w.alloc (.cells (rowArr n zV) 5))) := hW.alloc hW.size _
  have hWg := hW.size
  have HST := Lib.hid (drawD_state hx1 n)
  have HLN := Lib.hid (drawD_len (nextN x) n)
  have HBY := Lib.hid (drawD_byte (nextN x) n)
  have HFR : Hid (∀ d a, d < n → a < n → FreeIn (drawD (nextN x) n d).2 a n) := fun d a hd ha => drawD_free (nextN x) n d a hd ha
  have HD0 : Hid (drawD (nextN x) n 0 = (nextN x, List.replicate n 0)) := rfl
  have HDS : Hid (∀ d, drawD (nextN x) n (d + 1) = stepD n (drawD (nextN x) n d)) := fun d => rfl
  clear h hs0 hW hD hDt
  rw [HDR.out]
  generalize drawD (nextN x) n = S at *
  generalize nextN x = x1 at *
  generalize w.heap.size = g at *
  clear HDR
  go_enter Tryz.func106, Tryz.ntmps106
  go_wp2_with fail
  refine E0.out.mono ?_
  rintro e w1 ⟨rfl, s1, o1⟩
  have HA : Hid (DrawAt W B g n w1 (S 0).1 (S 0).2) := by rw [HD0.out]; exact ⟨s1, HR0.out.only o1 (by omega), HBA.out.trans (o1.below hB)⟩
  clear s1 o1 HR0 HBA HD0 E0 hmk
  go_wp2_with fail
  go_loopw [12] (fun i wr => ∃ j : Nat, j ≤ D ∧ i = .int .i64 j ∧ Hid (DrawAt W B g n wr (S j).1 (S j).2)) (fun i _ => D - (intOf i).toNat)
  case atStart => exact ⟨0, by omega, rfl, HA⟩
  case round =>
    obtain ⟨j, hj, rfl, HK⟩ := hrel
    by_cases hjD : j < D
    · have hy := HST.out j
      have hy1 := nextN_lt hy
      have hy2 := nextN_lt hy1
      have hll := HLN.out j
      have HLB := Lib.hid (HBY.out j)
      have hf0 : nextN (S j).1 % n < n := Nat.mod_lt _ (by omega)
      have HFJ : Hid (FreeIn (S j).2 (nextN (S j).1 % n) n) := HFR.out j _ (by omega) hf0
      have hlt2 := goN_lt (l := (S j).2) n (nextN (S j).1 % n) (by omega)
      have HNX : Hid (S (j + 1) = (nextN (nextN (S j).1), (S j).2.set (goN (S j).2 (nextN (S j).1 % n) n) (1 + nextN (nextN (S j).1) % 255))) := HDS.out j
      generalize (S j).1 = y at *
      generalize (S j).2 = l at *
      have E1 := Lib.hid (below_some (n : Int) hy HK.out.st (by omega) (by omega))
      have he1 : ((nextN y : Nat) : Int) % (n : Int) = ((nextN y % n : Nat) : Int) := rfl
      rw [he1] at E1
      clear he1
      generalize hp : nextN y % n = p at *
      generalize hy1e : nextN y = y1 at *
      go_wp2_with fail
      refine E1.out.mono ?_
      rintro e w2 ⟨rfl, s2, o2⟩
      have HK2 : Hid (DrawAt W B g n w2 y1 l) := HK.out.only s2 o2 hB (by omega)
      have E2 : Hid (Calls Tryz.prog 117 #[.slice (some ⟨g, 0, none⟩) n n, .int .i64 (p : Int)] w2 fun e w' => e = .returned (.int .i64 ((goN l p n : Nat) : Int)) ∧ w2 = w') := by
        have := free_any (some ⟨g, 0, none⟩) n l p w2 (by omega) (HK2.out.row.sl hll HLB.out (by unfold maxLen; omega)) (by omega) (by rw [hll]; exact HFJ.out)
        rw [hll] at this
        exact this
      generalize goN l p n = q at *
      clear s2 o2 E1
      go_wp2_with fail
      refine E2.out.mono ?_
      rintro e w3 ⟨rfl, rfl⟩
      have E3 := Lib.hid (below_some (255 : Int) hy1 HK2.out.st (by omega) (by omega))
      have he3 : ((nextN y1 : Nat) : Int) % (255 : Int) = ((nextN y1 % 255 : Nat) : Int) := rfl
      rw [he3] at E3
      clear he3 E2
      have hz : nextN y1 % 255 < 255 := Nat.mod_lt _ (by omega)
      generalize hze : nextN y1 % 255 = z at *
      generalize hy2e : nextN y1 = y2 at *
      go_wp2_with fail
      refine E3.out.mono ?_
      rintro e w4 ⟨rfl, s4, o4⟩
      have HK4 : Hid (DrawAt W B g n w4 y2 l) := HK2.out.only s4 o4 hB (by omega)
      have HK5 : Hid (DrawAt W B g n (w4.setCell ⟨g, q, none⟩ (.int .u8 ((1 + z : Nat) : Int))) y2 (l.set q (1 + z))) := HK4.out.set hll (by omega) (1 + z) hWg (by omega)
      obtain ⟨vk, hcv⟩ := HK4.out.row.has q (by omega)
      have hlo := HK4.out.row.loose q
      have hql : q < n := by omega
      clear s4 o4 E3
      go_wp2_with fail
      go_roundw
      case rel => exact ⟨j + 1, by omega, by go_num, by rw [HNX.out]; exact HK5⟩
      case measure => simp [intOf]; omega
    · obtain rfl : j = D := by omega
      go_wp2_with fail
      go_ret
      exact ⟨g, rfl, HK.out.row.sl (HLN.out j) (HBY.out j) (by unfold maxLen; omega), HK.out.below⟩

set_option maxHeartbeats 800000 in
theorem picks_any (k id : Nat) (h1 : 1 ≤ k) (hk : k ≤ 64) (hid : id < 4294967296) (w : World) :
    Calls Tryz.prog 91 #[.int .i64 (k : Int), .int .u32 (id : Int)] w (CellsPost (picksN k id) w) := by
  have hb := spN_bound hk
  have E0 := Lib.hid (pcount_any k h1 hk)
  have E1 := Lib.hid (fun w => seed_any k id (by omega) hid w)
  have hsd : seedN k id < 4294967296 := Nat.mod_lt _ (by omega)
  have E2 := Lib.hid (new_any (seedN k id) hsd)
  have hy := beginN_lt hsd
  have HN : Hid (numsN k id = drawnN (beginN (seedN k id)) (k + (spN k + 2))) := rfl
  have HP : Hid (picksN k id = cellsTo (numsN k id) (numsN k id).length) := rfl
  have HL := Lib.hid (numsN_len k id)
  generalize picksN k id = P at *
  generalize numsN k id = l at *
  generalize beginN (seedN k id) = y at *
  generalize seedN k id = s at *
  generalize hp : spN k + 2 = p at *
  have hne : ((p : Int) == 0) = false := by rw [beq_eq_false_iff_ne]; omega
  go_enter Tryz.func91, Tryz.ntmps91
  go_wp2_with fail
  refine (E0.out _).mono ?_
  rintro e w1 ⟨rfl, rfl⟩
  go_wp2_with fail
  refine (E1.out _).mono ?_
  rintro e w1 ⟨rfl, rfl⟩
  go_wp2_with fail
  refine (E2.out _).mono ?_
  rintro e w1 ⟨rfl, s1, b1, z1⟩
  have HD : Hid (Calls Tryz.prog 106 #[.pointer (some ⟨w.heap.size, 0, none⟩), .int .i64 ((k : Int) + (p : Int))] w1 (DrawPost w l (k + p))) := by
    have := draw_any w w1 w.heap.size y (k + p) hy s1 b1 (Nat.le_refl _) (by omega) (by omega)
    rw [← HN.out] at this
    exact this
  clear s1 b1 z1 E0 E1 E2
  go_wp2_with fail
  refine HD.out.mono ?_
  rintro e w2 ⟨g, rfl, s2, b2⟩
  have hkp : l.length = k + p := HL.out
  have HC : Hid (Calls Tryz.prog 73 #[.slice (some ⟨g, 0, none⟩) (k + p) (k + p)] w2 (CellsPost P w2)) := by
    have := cells_any (some ⟨g, 0, none⟩) (k + p) l w2 (by omega) s2
    rw [← HP.out, hkp] at this
    exact this
  have HB2 := Lib.hid b2
  clear s2 b2 HD
  go_wp2_with fail
  refine HC.out.mono ?_
  rintro e w3 ⟨v, rfl, o3, b3⟩
  have hO : OwnC w.heap.size w3 v P := o3.lower HB2.out.size
  have hB : Below w.heap.size w w3 := HB2.out.trans (b3.mono HB2.out.size)
  have HH := Lib.hid (And.intro hO hB)
  clear o3 b3 hO hB HC
  go_wp2_with fail
  go_ret
  exact ⟨v, rfl, HH.out.1, HH.out.2⟩

theorem picks_none (k : Int) (id : Nat) (h : k < 1 ∨ 64 < k) (w : World) :
    Calls Tryz.prog 91 #[.int .i64 k, .int .u32 (id : Int)] w fun e w' => e = .returned (.slice none 0 0) ∧ w = w' := by
  have E0 := Lib.hid (count_none k h)
  go_enter Tryz.func91, Tryz.ntmps91
  go_wp2_with (go_at_call 89; refine (E0.out _).mono ?_; rintro e w1 ⟨rfl, rfl⟩)
  go_ret
  exact ⟨rfl, rfl⟩
end Go.Proofs.YtcopjbapglndgaaGreatDoor
end

section
namespace Go.Proofs.YtcopjbapglndgaaGreatDoor
open Go.ChangeShapes Go.WideShapes Go.ChangeAt Go.RowKit Go.Joins
set_option linter.unusedVariables false

theorem pnN_spar {s j i : Nat} (h : j < s) : pnN s j i = sparN s j i := if_pos h
theorem pnN_dens {s j i : Nat} (h : ¬ j < s) : pnN s j i = powI 2 (((i + 1) * (j - s + 1) : Nat) : Int) := if_neg h

set_option maxHeartbeats 800000 in
theorem numbers_any (j k : Nat) (h1 : 1 ≤ k) (hk : k ≤ 64) (hj : j < spN k + 2) (w : World) :
    Calls Tryz.prog 105 #[.int .i64 (j : Int), .int .i64 (k : Int)] w fun e w' => e = .returned (.slice (some ⟨w.heap.size, 0, none⟩) k k) ∧ NewTo w w' (parRow k j) k := by
  have hmk := make_row k (by omega)
  have HN := Lib.hid (new_start w (parRow k j) k (parRow_len k j))
  have HG : Hid (∀ i (h : i < (parRow k j).length), (parRow k j)[i] = pnN (spN k) j i) := parRow_get k j
  have HL := Lib.hid (parRow_len k j)
  have hb := spN_bound hk
  have ht := spN_two h1
  have HS := Lib.hid (sparses_any k hk)
  generalize spN k = s at *
  generalize parRow k j = m at *
  have HSP : Hid (∀ i : Nat, i ≤ 1000 → ∀ w, Calls Tryz.prog 114 #[.int .i64 (j : Int), .int .i64 (i : Int), .int .i64 (s : Int)] w fun e w' => e = .returned (.int .u8 ((sparN s j i : Nat) : Int)) ∧ w = w') := fun i hi w => sparse_any j i s (by omega) hi (by omega) (by omega) w
  go_enter Tryz.func105, Tryz.ntmps105
  go_wp2_with (go_at_call 104; refine (HS.out _).mono ?_; rintro e w' ⟨rfl, rfl⟩)
  clear hmk
  go_loopw [14] (fun i wr => ∃ i' : Nat, i' ≤ k ∧ i = .int .i64 i' ∧ Hid (NewTo w wr m i')) (fun i _ => k - (intOf i).toNat)
  case atStart => exact ⟨0, by omega, rfl, HN⟩
  case round =>
    obtain ⟨i, hi, rfl, HK⟩ := hrel
    by_cases hlt : i < k
    · obtain ⟨vk, hcv⟩ := HK.out.row.has i (by rw [HL.out]; exact hlt)
      have hlo := HK.out.row.loose i
      have HX : Hid (NewTo w (wr.setCell ⟨w.heap.size, i, none⟩ (.int .u8 ((pnN s j i : Nat) : Int))) m (i + 1)) := HK.out.set (by rw [HL.out]; exact hlt) (by rw [HG.out])
      by_cases hjs : j < s
      · rw [pnN_spar hjs] at HX
        have hq := sparN_lt s j i
        generalize hqq : sparN s j i = q at *
        have HC : Hid (∀ w, Calls Tryz.prog 114 #[.int .i64 (j : Int), .int .i64 (i : Int), .int .i64 (s : Int)] w fun e w' => e = .returned (.int .u8 (q : Int)) ∧ w = w') := fun w => by
          have := HSP.out i (by omega) w
          rwa [hqq] at this
        clear hqq
        go_wp2_with (go_at_call 114; refine (HC.out _).mono ?_; rintro e w' ⟨rfl, rfl⟩)
        go_roundw
        case rel => exact ⟨i + 1, by omega, by go_num, HX⟩
        case measure => simp [intOf]; omega
      · rw [pnN_dens hjs] at HX
        have hd : ¬ ((j : Int) < (s : Int)) := by omega
        have hq := powI_lt (show 2 < 256 by omega) (((i + 1) * (j - s + 1) : Nat) : Int)
        have hsub : (j : Int) - (s : Int) = ((j - s : Nat) : Int) := by omega
        have HC : Hid (∀ w, Calls Tryz.prog 115 #[.int .i64 ((j - s : Nat) : Int), .int .i64 (i : Int)] w fun e w' => e = .returned (.int .u8 ((powI 2 (((i + 1) * (j - s + 1) : Nat) : Int) : Nat) : Int)) ∧ w = w') := fun w => dense_any (j - s) i (by omega) (by omega) w
        have hjs2 : j - s < 2 := by omega
        generalize powI 2 (((i + 1) * (j - s + 1) : Nat) : Int) = q at *
        generalize j - s = d at *
        go_wp2_with (go_at_call 115; refine (HC.out _).mono ?_; rintro e w' ⟨rfl, rfl⟩)
        go_roundw
        case rel => exact ⟨i + 1, by omega, by go_num, HX⟩
        case measure => simp [intOf]; omega
    · obtain rfl : i = k := by omega
      go_wp2_with fail
      go_ret
      exact ⟨rfl, HK.out⟩
end Go.Proofs.YtcopjbapglndgaaGreatDoor
end

section
namespace Go.Proofs.YtcopjbapglndgaaGreatDoor
open Go.ChangeShapes Go.WideShapes Go.ChangeAt Go.RowKit
set_option linter.unusedVariables false

theorem tmod_parts (n : Int) : (0 ≤ n.tmod 255 ∧ n.tmod 255 = n % 255) ∨ (n.tmod 255 < 0 ∧ -255 < n.tmod 255 ∧ n.tmod 255 + 255 = n % 255) := by
  by_cases h : 0 ≤ n
  · left
    rw [Int.tmod_eq_emod_of_nonneg h]; omega
  · have ht : n.tmod 255 = -((-n) % 255) := by
      rw [← Int.tmod_eq_emod_of_nonneg (by omega : 0 ≤ -n), Int.neg_tmod]; omega
    rw [ht]; omega

set_option maxHeartbeats 400000 in
theorem refPow_any (a : Nat) (n : Int) (ha : a < 256) (h1 : -9223372036854775808 ≤ n) (h2 : n ≤ 9223372036854775807) (w : World) :
    Calls Tryz.prog 63 #[.int .u8 (a : Int), .int .i64 n] w fun e w' => e = .returned (.int .u8 ((powI a n : Nat) : Int)) ∧ w = w' := by
  by_cases h0 : n = 0
  · subst h0
    have HE := Lib.hid (show powI a 0 = 1 from rfl)
    go_enter Tryz.func63, Tryz.ntmps63
    go_wp2
    go_ret
    exact ⟨by rw [HE.out]; rfl, rfl⟩
  have hn : (n == 0) = false := by simpa using h0
  by_cases ha0 : a = 0
  · subst ha0
    have HE := Lib.hid (show powI 0 n = 0 by unfold powI; rw [if_neg h0]; rfl)
    clear h0
    have hz : (((0 : Nat) : Int) == 0) = true := rfl
    go_enter Tryz.func63, Tryz.ntmps63
    go_wp2
    go_ret
    exact ⟨by rw [HE.out]; rfl, rfl⟩
  have hz : ((a : Int) == 0) = false := by simpa using ha0
  have HE := Lib.hid (show powI a n = powN a (n % 255).toNat by unfold powI; rw [if_neg h0, if_neg ha0])
  clear h0 ha0
  obtain ⟨N, hN⟩ : ∃ N : Nat, n % 255 = N := ⟨(n % 255).toNat, by omega⟩
  have hN2 : N < 255 := by omega
  have HE2 := Lib.hid (show powI a n = powN a N by rw [HE.out, hN]; rfl)
  clear HE
  have HP := Lib.hid (tmod_parts n)
  rw [hN] at HP
  clear hN
  obtain ⟨T, hT⟩ : ∃ T : Int, n.tmod 255 = T := ⟨_, rfl⟩
  rw [hT] at HP
  rcases HP.out with ⟨hp1, hp2⟩ | ⟨hp1, hp2, hp3⟩
  · subst hp2
    clear HP
    have hd : decide ((N : Int) < 0) = false := by simp
    go_enter Tryz.func63, Tryz.ntmps63
    go_wp2
    go_loop [5, 17] (fun p i => ∃ k : Nat, k ≤ N ∧ p = .int .u8 ((powN a k : Nat) : Int) ∧ i = .int .i64 (k : Int)) (fun _ i => N - (intOf i).toNat)
    case atStart => exact ⟨0, by omega, rfl, rfl⟩
    case round =>
      obtain ⟨k, hk, rfl, rfl⟩ := hrel
      have hp := powN_lt ha k
      by_cases hlt : k < N
      · have HS := Lib.hid (show powN a (k + 1) = mulN (powN a k) a from rfl)
        generalize powN a k = P at *
        go_wp2_with (go_at_call 58; refine (refMul_any _ _ hp ha _).mono ?_; rintro e w' ⟨rfl, rfl⟩)
        go_round
        case rel => exact ⟨k + 1, by omega, by rw [HS.out], by go_num⟩
        case measure => simp [intOf]; omega
      · obtain rfl : k = N := by omega
        rw [← HE2.out]
        go_wp2
        go_ret
        exact ⟨rfl, rfl⟩
  · obtain rfl : T = (N : Int) - 255 := by omega
    clear HP hp3
    go_enter Tryz.func63, Tryz.ntmps63
    go_wp2
    go_loop [5, 17] (fun p i => ∃ k : Nat, k ≤ N ∧ p = .int .u8 ((powN a k : Nat) : Int) ∧ i = .int .i64 (k : Int)) (fun _ i => N - (intOf i).toNat)
    case atStart => exact ⟨0, by omega, rfl, rfl⟩
    case round =>
      obtain ⟨k, hk, rfl, rfl⟩ := hrel
      have hp := powN_lt ha k
      by_cases hlt : k < N
      · have HS := Lib.hid (show powN a (k + 1) = mulN (powN a k) a from rfl)
        generalize powN a k = P at *
        go_wp2_with (go_at_call 58; refine (refMul_any _ _ hp ha _).mono ?_; rintro e w' ⟨rfl, rfl⟩)
        go_round
        case rel => exact ⟨k + 1, by omega, by rw [HS.out], by go_num⟩
        case measure => simp [intOf]; omega
      · obtain rfl : k = N := by omega
        rw [← HE2.out]
        go_wp2
        go_ret
        exact ⟨rfl, rfl⟩

end Go.Proofs.YtcopjbapglndgaaGreatDoor
end

section
namespace Go.Proofs.YtcopjbapglndgaaGreatDoor
open Go.ChangeShapes Go.WideShapes Go.ChangeAt Go.RowKit Go.Joins
set_option linter.unusedVariables false

/-- A new row, the first k bytes of m in it, noughts behind. -/
def partV (m : List Nat) (k j : Nat) : Value := if j < k then vOf m j else zV j
structure PartTo (B : Nat) (w : World) (g : Nat) (m : List Nat) (k : Nat) : Prop where
  low : B ≤ g
  row : Row w g 5 m.length m.length (partV m k)
theorem PartTo.start (B : Nat) (w : World) (m : List Nat) (n : Nat) (hn : m.length = n) (hB : B ≤ w.heap.size) : PartTo B (w.alloc (.cells (rowArr n zV) 5)) w.heap.size m 0 := by
  subst hn
  exact ⟨hB, (Row.new_whole w _ _ zV _ _ rfl rfl).mono (Nat.le_refl _) (fun j hj => by simp [partV])⟩
theorem PartTo.set {B : Nat} {w : World} {g : Nat} {m : List Nat} {k : Nat} (h : PartTo B w g m k) (hk : k < m.length) {u : Value} (hu : u = .int .u8 ((m[k] : Nat) : Int)) : PartTo B (w.setCell ⟨g, k, none⟩ u) g m (k + 1) :=
  ⟨h.low, (h.row.upd k hk u).mono (Nat.le_refl _) fun j hj => by
    by_cases e : j = k
    · subst e; simp [partV, hu, vOf_eq m j hk]
    · simp only [e, if_false, partV]
      by_cases h2 : j < k
      · rw [if_pos h2, if_pos (by omega)]
      · rw [if_neg h2, if_neg (by omega)]⟩
theorem PartTo.skip {B : Nat} {w : World} {g : Nat} {m : List Nat} {k : Nat} (h : PartTo B w g m k) (hk : k < m.length) (h0 : m[k] = 0) : PartTo B w g m (k + 1) :=
  ⟨h.low, h.row.mono (Nat.le_refl _) fun j hj => by
    by_cases e : j = k
    · subst e; simp [partV, vOf_eq m j hk, h0, zV]
    · simp only [partV]
      by_cases h2 : j < k
      · rw [if_pos h2, if_pos (by omega)]
      · rw [if_neg h2, if_neg (by omega)]⟩
theorem PartTo.done (C : Nat) {B : Nat} {w : World} {g : Nat} {m : List Nat} {k : Nat} (h : PartTo B w g m k) (hk : m.length ≤ k) (hb : IsByte m) (hm : m.length ≤ 1000000) : Rw C w (some ⟨g, 0, none⟩) m.length m := by
  have hr : Row w g 5 m.length m.length (vOf m) := h.row.mono (Nat.le_refl _) fun j hj => by simp only [partV]; rw [if_pos (by omega)]
  refine ⟨hr.sl rfl hb (by unfold maxLen; omega), fun _ p hp => ?_⟩
  cases hp
  obtain ⟨cs, e, _⟩ := hr
  exact .inr ⟨cs, (0, 0), e⟩

theorem spN_ref (k : Nat) : spN k = if k % 8 = 0 then k / 8 + 1 else k / 8 + 1 + 1 := by
  unfold spN
  split <;> omega
theorem parRows_snoc {k j : Nat} (h : j < spN k + 2) : (parRows k).take (j + 1) = (parRows k).take j ++ [parRow k j] := by
  rw [List.take_succ_eq_append_getElem (by rw [parRows_len]; exact h), parRows_get]

theorem pn_first (s i : Nat) : pnN s s i = powI 2 ((i : Int) + 1) := by
  unfold pnN
  rw [if_neg (Nat.lt_irrefl s)]
  congr 1
  rw [Nat.sub_self]; simp
theorem pn_second (s i : Nat) : pnN s (s + 1) i = powI 2 (2 * ((i : Int) + 1)) := by
  unfold pnN
  rw [if_neg (by omega)]
  congr 1
  rw [show s + 1 - s + 1 = 2 by omega]; omega

/-- What lies behind one round of the document's Parities. -/
structure RefAt (w wo : World) (m : List Nat) (i : Nat) (wi : World) : Prop where
  part : PartTo wo.heap.size wi wo.heap.size m i
  below : Below wo.heap.size wo wi
theorem RefAt.start (w wo : World) (m : List Nat) (n : Nat) (hn : m.length = n) : RefAt w wo m 0 (wo.alloc (.cells (rowArr n zV) 5)) :=
  ⟨PartTo.start _ _ m n hn (Nat.le_refl _), (Below.refl _ _).alloc (Nat.le_refl _) _⟩
theorem RefAt.set {w wo wi : World} {m : List Nat} {k : Nat} (h : RefAt w wo m k wi) (hk : k < m.length) {u : Value} (hu : u = .int .u8 ((m[k] : Nat) : Int)) : RefAt w wo m (k + 1) (wi.setCell ⟨wo.heap.size, k, none⟩ u) :=
  ⟨h.part.set hk hu, h.below.setCell (Nat.le_refl _) _⟩
theorem RefAt.skip {w wo wi : World} {m : List Nat} {k : Nat} (h : RefAt w wo m k wi) (hk : k < m.length) (h0 : m[k] = 0) : RefAt w wo m (k + 1) wi := ⟨h.part.skip hk h0, h.below⟩

def OwnPost (ls : Rws) (w : World) (e : Ending) (w' : World) : Prop :=
  ∃ v, e = .returned v ∧ Own w.heap.size w' v ls ∧ Below w.heap.size w w'

set_option maxRecDepth 100000 in
set_option maxHeartbeats 2000000 in
theorem refPar_any (k : Nat) (h1 : 1 ≤ k) (hk : k ≤ 64) (w : World) :
    Calls Tryz.prog 35 #[.int .i64 (k : Int)] w (OwnPost (parRows k) w) := by
  have hsb := spN_bound hk
  have hs2 := spN_two h1
  have HSR := Lib.hid (spN_ref k)
  have HSN := Lib.hid (fun (j : Nat) (h : j < spN k + 2) => parRows_snoc (k := k) h)
  have HLEN := Lib.hid (parRows_len k)
  have HZ : Hid ((parRows k).take 0 = []) := rfl
  have HRG : Hid (∀ j i (h : i < (parRow k j).length), (parRow k j)[i] = pnN (spN k) j i) := fun j => parRow_get k j
  have HRL : Hid (∀ j, (parRow k j).length = k) := fun j => parRow_len k j
  have HRB : Hid (∀ j, IsByte (parRow k j)) := fun j => parRow_byte k j
  generalize parRow k = R at *
  generalize parRows k = P at *
  generalize spN k = s at *
  obtain ⟨q, hq⟩ : ∃ q : Nat, (k : Int) / 8 = (q : Int) := ⟨k / 8, rfl⟩
  obtain ⟨r, hr⟩ : ∃ r : Nat, (k : Int) % 8 = (r : Int) := ⟨k % 8, rfl⟩
  have hq' : k / 8 = q := by omega
  have hr' : k % 8 = r := by omega
  have HMK : Hid (∀ w, (Instr.makeSlice 35 (.int .i64 (k : Int)) (.int .i64 (k : Int))).run Tryz.prog w = .ok (.slice (some ⟨w.heap.size, 0, none⟩) k k) (w.alloc (.cells (rowArr k zV) 5))) := make_row k (by omega)
  rw [hq', hr'] at HSR
  clear hq' hr'
  have hqb : q ≤ 64 := by omega
  by_cases h0 : r = 0
  case' pos =>
    subst h0
    have hs : (q : Int) + 1 = (s : Int) := by have := HSR.out; simp at this; omega
    clear HSR
    go_enter Tryz.func35, Tryz.ntmps35
    go_wp2_with fail
    clear hq hr hs
  case' neg =>
    have hs1 : (q : Int) + 1 + 1 = (s : Int) := by have := HSR.out; rw [if_neg h0] at this; omega
    have hr0 : 0 < (r : Int) := by omega
    have hr1 : 0 < r := by omega
    clear HSR
    go_enter Tryz.func35, Tryz.ntmps35
    go_wp2_with fail
    clear hq hr hs1
  all_goals
    go_loopw [4, 18] (fun v i wr => ∃ j : Nat, j ≤ s + 2 ∧ i = .int .i64 j ∧ Hid (Own w.heap.size wr v (P.take j)) ∧ Hid (Below w.heap.size w wr)) (fun _ i _ => s + 2 - (intOf i).toNat)
    case atStart => exact ⟨0, by omega, rfl, by rw [HZ.out]; exact Own.nil _ _, Below.refl _ _⟩
    case round =>
      obtain ⟨j, hj, rfl, HO, HB⟩ := hrel
      by_cases hlt : j < s + 2
      · have hmk := HMK.out wr
        have HST := Lib.hid (RefAt.start w wr (R j) k (HRL.out j))
        have hjl : (j : Int) < (s : Int) + 2 := by omega
        have HSJ := Lib.hid (HSN.out j hlt)
        have HRJ := Lib.hid (HRG.out j)
        have HRLJ := Lib.hid (HRL.out j)
        have HRBJ := Lib.hid (HRB.out j)
        generalize R j = m at *
        obtain ⟨wo, hwo⟩ : ∃ wo, wo = wr := ⟨_, rfl⟩
        rw [← hwo] at HST HO HB
        go_wp2_with fail
        rw [← hwo]
        clear hmk hwo wr
        go_loopg [24] k (fun gg i wi => ∃ i' : Nat, i' ≤ k ∧ k - i' ≤ gg ∧ i = .int .i64 i' ∧ Hid (RefAt w wo m i' wi))
        case atStart => exact ⟨0, by omega, by omega, rfl, HST⟩
        case round =>
          obtain ⟨i, hi, hig, rfl, HK⟩ := hrel
          by_cases hik : i < k
          · have hil : i < m.length := by rw [HRLJ.out]; exact hik
            have HMI := Lib.hid (HRJ.out i hil)
            have hcv := HK.out.part.row.has i hil
            obtain ⟨vk, hcv⟩ := hcv
            have hlo := HK.out.part.row.loose i
            have HX : Hid (∀ u, u = .int .u8 ((m[i] : Nat) : Int) → RefAt w wo m (i + 1) (wr.setCell ⟨wo.heap.size, i, none⟩ u)) := fun u hu => HK.out.set hil hu
            by_cases hjs : j < s
            · have hne1 : ((j : Int) == (s : Int)) = false := by simp; omega
              have hne2 : ((j : Int) == (s : Int) + 1) = false := by simp; omega
              obtain ⟨e1, e2⟩ := mod_two i s
              obtain ⟨e3, e4⟩ := mod_three i s
              have hr1 := Nat.mod_lt i (show 0 < s by omega)
              have hq1 := Nat.mod_lt (3 * i + 1) (show 0 < s by omega)
              have hz : ((s : Int) == 0) = false := by simp; omega
              have hjs2 : (j : Int) < (s : Int) := by omega
              have HP := Lib.hid (HMI.out.trans (pnN_spar hjs))
              by_cases c1 : i % s = j
              · have HF : Hid (RefAt w wo m (i + 1) (wr.setCell ⟨wo.heap.size, i, none⟩ (.int .u8 1))) := HX.out _ (by rw [HP.out]; unfold sparN; rw [if_pos (.inl c1)]; rfl)
                rw [c1] at e1 e2
                have h3 : ((j : Int) == (j : Int)) = true := by simp
                clear e3 e4 hr1 hq1 c1 hne1 hne2
                go_wp2_with fail
                go_roundg (k - (i + 1))
                case rel => exact ⟨i + 1, by omega, by omega, by go_num, HF⟩
                case measure => omega
              · have h1b : (((i % s : Nat) : Int) == (j : Int)) = false := by simp; omega
                by_cases c2 : (3 * i + 1) % s = j
                · have HF : Hid (RefAt w wo m (i + 1) (wr.setCell ⟨wo.heap.size, i, none⟩ (.int .u8 1))) := HX.out _ (by rw [HP.out]; unfold sparN; rw [if_pos (.inr c2)]; rfl)
                  rw [c2] at e3 e4
                  have h3 : ((j : Int) == (j : Int)) = true := by simp
                  generalize i % s = rr at *
                  clear hq1 c2 hne1 hne2
                  go_wp2_with fail
                  go_roundg (k - (i + 1))
                  case rel => exact ⟨i + 1, by omega, by omega, by go_num, HF⟩
                  case measure => omega
                · have HF : Hid (RefAt w wo m (i + 1) wr) := HK.out.skip hil (by rw [HP.out]; unfold sparN; rw [if_neg (by omega)])
                  have h2b : ((((3 * i + 1) % s : Nat) : Int) == (j : Int)) = false := by simp; omega
                  generalize i % s = rr at *
                  generalize (3 * i + 1) % s = qq at *
                  go_wp2_with fail
                  go_roundg (k - (i + 1))
                  case rel => exact ⟨i + 1, by omega, by omega, by go_num, HF⟩
                  case measure => omega
            · have hjs2 : ¬ ((j : Int) < (s : Int)) := by omega
              by_cases hj0 : j = s
              · subst hj0
                have HP := Lib.hid (HMI.out.trans (pn_first j i))
                have HC : Hid (∀ w, Calls Tryz.prog 63 #[.int .u8 2, .int .i64 ((i : Int) + 1)] w fun e w' => e = .returned (.int .u8 ((powI 2 ((i : Int) + 1) : Nat) : Int)) ∧ w = w') := refPow_any 2 ((i : Int) + 1) (by omega) (by omega) (by omega)
                have hpl := powI_lt (show 2 < 256 by omega) ((i : Int) + 1)
                generalize powI 2 ((i : Int) + 1) = pw at *
                have HF : Hid (RefAt w wo m (i + 1) (wr.setCell ⟨wo.heap.size, i, none⟩ (.int .u8 (pw : Int)))) := HX.out _ (by rw [HP.out])
                have h3 : ((j : Int) == (j : Int)) = true := by simp
                go_wp2_with (go_at_call 63; refine (HC.out _).mono ?_; rintro e w' ⟨rfl, rfl⟩)
                go_roundg (k - (i + 1))
                case rel => exact ⟨i + 1, by omega, by omega, by go_num, HF⟩
                case measure => omega
              · obtain rfl : j = s + 1 := by omega
                have HP := Lib.hid (HMI.out.trans (pn_second s i))
                have HC : Hid (∀ w, Calls Tryz.prog 63 #[.int .u8 2, .int .i64 (2 * ((i : Int) + 1))] w fun e w' => e = .returned (.int .u8 ((powI 2 (2 * ((i : Int) + 1)) : Nat) : Int)) ∧ w = w') := refPow_any 2 (2 * ((i : Int) + 1)) (by omega) (by omega) (by omega)
                have hpl := powI_lt (show 2 < 256 by omega) (2 * ((i : Int) + 1))
                generalize powI 2 (2 * ((i : Int) + 1)) = pw at *
                have HF : Hid (RefAt w wo m (i + 1) (wr.setCell ⟨wo.heap.size, i, none⟩ (.int .u8 (pw : Int)))) := HX.out _ (by rw [HP.out])
                have h3 : ((s : Int) + 1 == (s : Int) + 1) = true := by simp
                have h4 : ((s : Int) + 1 == (s : Int)) = false := by simp; omega
                go_wp2_with (go_at_call 63; refine (HC.out _).mono ?_; rintro e w' ⟨rfl, rfl⟩)
                go_roundg (k - (i + 1))
                case rel => exact ⟨i + 1, by omega, by omega, by go_num, HF⟩
                case measure => omega
          · obtain rfl : i = k := by omega
            have HRW : Hid (Rw w.heap.size wr (some ⟨wo.heap.size, 0, none⟩) m.length m) := HK.out.part.done _ (by rw [HRLJ.out]; exact Nat.le_refl _) HRBJ.out (by rw [HRLJ.out]; omega)
            have HO1 := Lib.hid (HO.out.keep HK.out.below)
            have HB1 : Hid (Below w.heap.size w wr) := HB.out.trans (HK.out.below.mono HB.out.size)
            rw [HRLJ.out] at HRW
            have hlen : (P.take j).length ≤ 100000 := by rw [List.length_take, HLEN.out]; omega
            have HLM := Lib.hid HRLJ.out
            generalize wo.heap.size = g0 at *
            go_wp2_with (at_builtin; refine wpList_push_rows _ rfl _ _ rfl w.heap.size _ _ rfl (HO1.out.keep ((Below.refl _ _).alloc (Nat.le_refl _) _)) wr.heap.size rfl (some ⟨g0, 0, none⟩) i m (by rw [HLM.out]; simp) (HRW.out.below ((Below.refl _ _).alloc (Nat.le_refl _) _)) (by have := HB1.out.size; simp; omega) hlen ?_; intro v' w2 HO2 hk2)
            go_roundw
            case rel => exact ⟨j + 1, by omega, by go_num, by rw [HSJ.out]; exact HO2, (HB1.out.alloc HB1.out.size _).trans (hk2.below (by have := HB1.out.size; simp; omega))⟩
            case measure => simp [intOf]; omega
      · obtain rfl : j = s + 2 := by omega
        have hjl : ¬ ((s : Int) + 2 < (s : Int) + 2) := by omega
        have HPE : Hid (P.take (s + 2) = P) := by show _ = _; rw [← HLEN.out, List.take_length]
        go_wp2_with fail
        go_ret
        exact ⟨_, rfl, by rw [← HPE.out]; exact HO.out, HB.out⟩
end Go.Proofs.YtcopjbapglndgaaGreatDoor
end
