/-
  What package field's Add and Mul, and the document's Mul, answer of any numbers.
-/
import Derived.Test.YtahkjimbmapofaaRows
import Derived.Test.YtahkjimbmapofaaFieldMath
import Derived.WalkKit
import Derived.ProofKit
import Derived.OpenShut
import Derived.Below
import Derived.WalkSpells
import Derived.WalkLawsBesides
import Derived.Outline
import Derived.Deep.QuietTactic
import Derived.BigQuiet
import Derived.Lib.Hide
import Derived.Laws.BitsAllLaws
namespace Go.Proofs.Ytahkjimbmapofaa
open Go.ChangeShapes Go.WideShapes Go.ChangeAt Go.RowKit
set_option linter.unusedVariables false

theorem ret_u8 {a b : Nat} (h : a = b) : Ending.returned (.int .u8 (a : Int)) = .returned (.int .u8 (b : Int)) := by rw [h]

theorem u8_of_wf {a : Int} (h : (Lit.int .u8 a).wf = true) : ∃ n : Nat, n < 256 ∧ a = (n : Int) := by
  have hb : 0 ≤ a ∧ a ≤ 255 := by simpa [Lit.wf, IntKind.min, IntKind.max, IntKind.signed, IntKind.bits] using h
  exact ⟨a.toNat, by omega, by omega⟩

theorem xor8 (a b : Nat) (ha : a < 256) (hb : b < 256) : bits .xor .u8 (a : Int) (b : Int) = ((a ^^^ b : Nat) : Int) := u8_xor_nat a b ha hb
theorem and8 (a : Nat) (ha : a < 256) : bits .and .u8 (a : Int) 1 = ((a % 2 : Nat) : Int) := by
  have := u8_and_nat a 1 ha (by omega)
  rw [nat_mask1] at this
  exact this

theorem add_any (a b : Nat) (ha : a < 256) (hb : b < 256) (w : World) :
    Calls Try.prog 25 #[.int .u8 (a : Int), .int .u8 (b : Int)] w fun e w' => e = .returned (.int .u8 ((a ^^^ b : Nat) : Int)) ∧ w = w' := by
  have e1 := xor8 a b ha hb
  go_enter Try.func25, Try.ntmps25
  go_wp2
  go_ret
  exact ⟨rfl, rfl⟩

theorem double_any (a : Nat) (ha : a < 256) (w : World) :
    Calls Try.prog 28 #[.int .u8 (a : Int)] w fun e w' => e = .returned (.int .u8 ((dbl a : Nat) : Int)) ∧ w = w' := by
  by_cases h : 128 ≤ a
  · have e1 : bits .xor .u8 ((a : Int) * 2 % 256) 29 = ((a * 2 % 256 ^^^ 29 : Nat) : Int) := xor8 (a * 2 % 256) 29 (by omega) (by omega)
    have HD := Lib.hid (show dbl a = a * 2 % 256 ^^^ 29 by unfold dbl; rw [if_pos h])
    go_enter Try.func28, Try.ntmps28
    go_wp2
    go_ret
    exact ⟨ret_u8 HD.out.symm, rfl⟩
  · have HD := Lib.hid (show dbl a = a * 2 by unfold dbl; rw [if_neg h])
    go_enter Try.func28, Try.ntmps28
    go_wp2
    go_ret
    exact ⟨ret_u8 HD.out.symm, rfl⟩

theorem half (y : Nat) : (y : Int) / 2 = ((y / 2 : Nat) : Int) := by omega

set_option maxHeartbeats 400000 in
theorem mul_any (a b : Nat) (ha : a < 256) (hb : b < 256) (w : World) :
    Calls Try.prog 24 #[.int .u8 (a : Int), .int .u8 (b : Int)] w fun e w' => e = .returned (.int .u8 ((mulN a b : Nat) : Int)) ∧ w = w' := by
  go_enter Try.func24, Try.ntmps24
  go_wp2
  go_loop [0, 1, 5] (fun x y p => ∃ k : Nat, k ≤ 8 ∧ x = .int .u8 ((dblN k a : Nat) : Int) ∧ y = .int .u8 ((b / 2 ^ k : Nat) : Int) ∧ p = .int .u8 ((mulTo k a b : Nat) : Int)) (fun _ y _ => (intOf y).toNat)
  case atStart => exact ⟨0, by omega, rfl, by simp, rfl⟩
  case round =>
    obtain ⟨k, hk, rfl, rfl, rfl⟩ := hrel
    have hx := dblN_lt k ha
    have hy : b / 2 ^ k < 256 := Nat.lt_of_le_of_lt (Nat.div_le_self _ _) hb
    have hp := mulTo_lt k b ha
    by_cases h0 : b / 2 ^ k = 0
    · have HE := Lib.hid (mulTo_done (a := a) hk h0)
      rw [h0]
      clear h0
      generalize mulTo k a b = p at *
      have z : (((0 : Nat) : Int) != 0) = false := rfl
      go_wp2
      go_ret
      exact ⟨ret_u8 HE.out, rfl⟩
    · have HN := Lib.hid (show b / 2 ^ (k + 1) = b / 2 ^ k / 2 by rw [Nat.pow_succ, Nat.div_div_eq_div_mul])
      have h8 : k < 8 := by
        by_cases h : k = 8
        · subst h; omega
        · omega
      have HX := Lib.hid (show dblN (k + 1) a = dbl (dblN k a) from rfl)
      by_cases h1 : b / 2 ^ k % 2 = 1
      · have HM := Lib.hid (mulTo_one (a := a) h1)
        generalize dblN k a = x at *
        generalize mulTo k a b = p at *
        generalize b / 2 ^ k = y at *
        have ea := and8 y hy
        rw [h1] at ea
        have ex := xor8 p x hp hx
        have hn : ((y : Int) != 0) = true := by simp; omega
        have hpos : 0 < y := by omega
        have he : (((1 : Nat) : Int) == 1) = true := rfl
        clear h0 h1
        go_wp2_with (go_at_call 28; refine (double_any _ hx _).mono ?_; rintro e w' ⟨rfl, rfl⟩)
        go_round
        case rel => exact ⟨k + 1, by omega, by rw [HX.out], by rw [HN.out]; first | rfl | go_num, by rw [HM.out]⟩
        case measure => simp [intOf]; omega
      · have HM := Lib.hid (mulTo_none (a := a) h1)
        have h2 : b / 2 ^ k % 2 = 0 := by omega
        generalize dblN k a = x at *
        generalize mulTo k a b = p at *
        generalize b / 2 ^ k = y at *
        have ea := and8 y hy
        rw [h2] at ea
        have hn : ((y : Int) != 0) = true := by simp; omega
        have hpos : 0 < y := by omega
        have he : (((0 : Nat) : Int) == 1) = false := rfl
        clear h0 h1 h2
        go_wp2_with (go_at_call 28; refine (double_any _ hx _).mono ?_; rintro e w' ⟨rfl, rfl⟩)
        go_round
        case rel => exact ⟨k + 1, by omega, by rw [HX.out], by rw [HN.out]; first | rfl | go_num, by rw [HM.out]⟩
        case measure => simp [intOf]; omega

/-! The document's product. -/

theorem bit1 (b k : Nat) (hb : b < 256) : bits .and .u8 ((b : Int) / 2 ^ k) 1 = ((b / 2 ^ k % 2 : Nat) : Int) := by
  have e : ((b : Int) / 2 ^ k) = ((b / 2 ^ k : Nat) : Int) := by simp
  rw [e]
  exact and8 _ (Nat.lt_of_le_of_lt (Nat.div_le_self _ _) hb)

theorem i64_small (n : Nat) (h : n < 9223372036854775808) : IntKind.i64.wrap (n : Int) = (n : Int) := by
  have e : (n : Int) % 2 ^ 64 = n := Int.emod_eq_of_lt (by omega) (by omega)
  simp only [IntKind.wrap, IntKind.bits, IntKind.signed, e]
  rw [if_neg]
  simp
  omega
theorem xor64 (a b : Nat) (ha : a < 32768) (hb : b < 32768) : bits .xor .i64 (a : Int) (b : Int) = ((a ^^^ b : Nat) : Int) := by
  have hx : a ^^^ b < 2 ^ 15 := Nat.xor_lt_two_pow (by omega) (by omega)
  show IntKind.i64.wrap ((BitVec.ofInt 64 (a : Int) ^^^ BitVec.ofInt 64 (b : Int)).toNat : Int) = _
  rw [BitVec.toNat_xor, ofInt_u64 a (by omega), ofInt_u64 b (by omega)]
  exact i64_small _ (by omega)
theorem and64 (a : Nat) (ha : a < 32768) : bits .and .i64 (a : Int) 1 = ((a % 2 : Nat) : Int) := by
  show IntKind.i64.wrap ((BitVec.ofInt 64 (a : Int) &&& BitVec.ofInt 64 ((1 : Nat) : Int)).toNat : Int) = _
  rw [BitVec.toNat_and, ofInt_u64 a (by omega), ofInt_u64 1 (by omega), nat_mask1]
  exact i64_small _ (by omega)
theorem shl64 (v a k : Nat) (hv : v < 32768) (ha : a * 2 ^ k < 32768) : bits .xor .i64 (v : Int) (wrap64 ((a : Int) * 2 ^ k)) = ((v ^^^ a * 2 ^ k : Nat) : Int) := by
  have e : ((a : Int) * 2 ^ k) = ((a * 2 ^ k : Nat) : Int) := by simp
  have e2 : wrap64 ((a * 2 ^ k : Nat) : Int) = ((a * 2 ^ k : Nat) : Int) := by
    rw [IntWalk.wrap64_in]; omega
  rw [e, e2]
  exact xor64 _ _ hv ha
theorem bit64 (v k : Nat) (hv : v < 32768) : bits .and .i64 ((v : Int) / 2 ^ k) 1 = ((v / 2 ^ k % 2 : Nat) : Int) := by
  have e : ((v : Int) / 2 ^ k) = ((v / 2 ^ k : Nat) : Int) := by simp
  rw [e]
  exact and64 _ (Nat.lt_of_le_of_lt (Nat.div_le_self _ _) hv)
theorem shl_lt {a k : Nat} (ha : a < 256) (hk : k < 8) : a * 2 ^ k < 32768 := by
  have h2 : 2 ^ k ≤ 2 ^ 7 := Nat.pow_le_pow_right (by omega) (by omega)
  have h3 : a * 2 ^ k ≤ 255 * 2 ^ 7 := Nat.mul_le_mul (by omega) h2
  omega
theorem low_byte (v : Nat) : (v : Int) % 256 = ((v % 256 : Nat) : Int) := by omega

set_option maxHeartbeats 400000 in
theorem refMul_any (a b : Nat) (ha : a < 256) (hb : b < 256) (w : World) :
    Calls Try.prog 18 #[.int .u8 (a : Int), .int .u8 (b : Int)] w fun e w' => e = .returned (.int .u8 ((mulN a b : Nat) : Int)) ∧ w = w' := by
  go_enter Try.func18, Try.ntmps18
  go_wp2
  go_loop [5, 8] (fun v i => ∃ k : Nat, k ≤ 8 ∧ v = .int .i64 ((polyTo k a b : Nat) : Int) ∧ i = .int .i64 k) (fun _ i => 8 - (intOf i).toNat)
  case atStart => exact ⟨0, by omega, rfl, rfl⟩
  case round =>
    obtain ⟨k, hk, rfl, rfl⟩ := hrel
    have hv := polyTo_lt k hk b ha
    by_cases hlt : k < 8
    · have e1 := bit1 b k hb
      by_cases h1 : b / 2 ^ k % 2 = 1
      · rw [h1] at e1
        have HM := Lib.hid (polyTo_one (a := a) h1)
        have he : (((1 : Nat) : Int) == 1) = true := rfl
        clear h1
        generalize polyTo k a b = v at *
        have ex := shl64 v a k hv (shl_lt ha hlt)
        go_wp2
        go_round
        case rel => exact ⟨k + 1, by omega, by rw [HM.out], by go_num⟩
        case measure => simp [intOf]; omega
      · have HM := Lib.hid (polyTo_none (a := a) h1)
        have h2 : b / 2 ^ k % 2 = 0 := by omega
        rw [h2] at e1
        have he : (((0 : Nat) : Int) == 1) = false := rfl
        clear h1 h2
        generalize polyTo k a b = v at *
        go_wp2
        go_round
        case rel => exact ⟨k + 1, by omega, by rw [HM.out], by go_num⟩
        case measure => simp [intOf]; omega
    · obtain rfl : k = 8 := by omega
      have HF := Lib.hid (show redTo 7 (polyTo 8 a b) % 256 = mulN a b from refN_eq ha hb)
      generalize polyTo 8 a b = V at *
      go_wp2
      go_loop [5, 7] (fun v i => ∃ m j : Nat, m + j = 14 ∧ m ≤ 7 ∧ v = .int .i64 ((redTo m V : Nat) : Int) ∧ i = .int .i64 j) (fun _ i => (intOf i).toNat)
      case atStart => exact ⟨0, 14, rfl, by omega, rfl, rfl⟩
      case round =>
        obtain ⟨m, j, hmj, hm, rfl, rfl⟩ := hrel
        have hr := redTo_lt m hv
        by_cases hj : 8 ≤ j
        · have e1 := bit64 (redTo m V) j hr
          by_cases h1 : redTo m V / 2 ^ j % 2 = 1
          · rw [h1] at e1
            have he : (((1 : Nat) : Int) == 1) = true := rfl
            have HM := Lib.hid (redTo_one (m := m) (v := V) (by rw [show 14 - m = j by omega]; exact h1))
            rw [show 6 - m = j - 8 by omega] at HM
            generalize redTo m V = r at *
            have ex : bits .xor .i64 (r : Int) (wrap64 (285 * 2 ^ (j - 8))) = ((r ^^^ 285 * 2 ^ (j - 8) : Nat) : Int) := shl64 r 285 (j - 8) hr (by
              have h2 : 2 ^ (j - 8) ≤ 2 ^ 6 := Nat.pow_le_pow_right (by omega) (by omega)
              omega)
            have HJ := Lib.hid hmj
            have hj14 : j ≤ 14 := by omega
            clear h1 hmj
            go_wp2
            go_round
            case rel => exact ⟨m + 1, j - 1, by have := HJ.out; omega, by have := HJ.out; omega, by rw [HM.out], by go_num⟩
            case measure => simp [intOf]; omega
          · have h2 : redTo m V / 2 ^ j % 2 = 0 := by omega
            rw [h2] at e1
            have he : (((0 : Nat) : Int) == 1) = false := rfl
            have HM := Lib.hid (redTo_none (m := m) (v := V) (by rw [show 14 - m = j by omega]; exact h1))
            generalize redTo m V = r at *
            have HJ := Lib.hid hmj
            have hj14 : j ≤ 14 := by omega
            clear h1 h2 hmj
            go_wp2
            go_round
            case rel => exact ⟨m + 1, j - 1, by have := HJ.out; omega, by have := HJ.out; omega, by rw [HM.out], by go_num⟩
            case measure => simp [intOf]; omega
        · obtain rfl : m = 7 := by omega
          obtain rfl : j = 7 := by omega
          generalize redTo 7 V = r at *
          go_wp2
          go_ret
          exact ⟨ret_u8 HF.out, rfl⟩

end Go.Proofs.Ytahkjimbmapofaa
