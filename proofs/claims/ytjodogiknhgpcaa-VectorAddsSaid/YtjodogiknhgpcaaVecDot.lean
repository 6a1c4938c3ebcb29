/-
  What package vector's Dot and Zero answer of any bytes.
-/
import Derived.Test.YtjodogiknhgpcaaVec
namespace Go.Proofs.Ytjodogiknhgpcaa
open Go.ChangeShapes Go.WideShapes Go.ChangeAt Go.RowKit
set_option linter.unusedVariables false

/-- The sum of the first k products. -/
def dotTo (l m : List Nat) : Nat → Nat
  | 0 => 0
  | k + 1 => dotTo l m k ^^^ mulN (l.getD k 0) (m.getD k 0)
def dotN (l m : List Nat) : Nat := dotTo l m l.length
/-- Are the first k all 0? -/
def zeroTo (l : List Nat) : Nat → Bool
  | 0 => true
  | k + 1 => zeroTo l k && (l.getD k 0 == 0)
def zeroB (l : List Nat) : Bool := zeroTo l l.length

theorem getD_lt {l : List Nat} (h : IsByte l) (k : Nat) : l.getD k 0 < 256 := by
  by_cases hk : k < l.length
  · simp only [List.getD, List.getElem?_eq_getElem hk, Option.getD_some]; exact h _ (List.getElem_mem hk)
  · simp [List.getD, List.getElem?_eq_none (show l.length ≤ k by omega)]
theorem dotTo_lt (l m : List Nat) (h : IsByte l) : ∀ k, dotTo l m k < 256
  | 0 => by simp [dotTo]
  | k + 1 => xor_lt (dotTo_lt l m h k) (mulN_lt _ (getD_lt h k))
theorem dotTo_succ (l m : List Nat) (k : Nat) (h1 : k < l.length) (h2 : k < m.length) : dotTo l m (k + 1) = dotTo l m k ^^^ mulN l[k] m[k] := by
  simp [dotTo, List.getD, h1, h2]
theorem zeroTo_false {l : List Nat} {k : Nat} (h1 : k < l.length) (h : l[k] ≠ 0) : zeroTo l (k + 1) = false := by
  simp [zeroTo, List.getD, h1, h]
theorem zeroTo_true {l : List Nat} {k : Nat} (h1 : k < l.length) (h : l[k] = 0) : zeroTo l (k + 1) = zeroTo l k := by
  simp [zeroTo, List.getD, h1, h]
theorem zeroTo_later {l : List Nat} {k : Nat} (h : zeroTo l k = false) : ∀ n, zeroTo l (k + n) = false
  | 0 => h
  | n + 1 => by show (zeroTo l (k + n) && _) = false; rw [zeroTo_later h n]; rfl

set_option maxHeartbeats 400000 in
theorem dot_same (a a2 : Option Addr) (cap cap2 : Nat) (l m : List Nat) (w : World) (he : l.length = m.length) (hs : Sl w a cap l) (hs2 : Sl w a2 cap2 m) :
    Calls Try.prog 9 #[.slice a l.length cap, .slice a2 m.length cap2] w fun e w' => e = .returned (.tuple #[.int .u8 ((dotN l m : Nat) : Int), .int .i64 0]) ∧ w = w' := by
  have HS := Lib.hid hs
  have HS2 := Lib.hid hs2
  have HE := Lib.hid he
  have hlm := hs2.lt
  rw [he]
  have hne : ((m.length : Int) != (m.length : Int)) = false := by simp
  clear hs hs2 he
  go_enter Try.func9, Try.ntmps9
  go_wp2_with fail
  go_loop [6, 16] (fun s i => ∃ k t : Nat, k ≤ m.length ∧ i = .int .i64 k ∧ Hid (t = dotTo l m k) ∧ t < 256 ∧ s = .int .u8 (t : Int)) (fun _ i => m.length - (intOf i).toNat)
  case atStart => exact ⟨0, 0, by omega, rfl, rfl, by omega, rfl⟩
  case round =>
    obtain ⟨k, t, hk, rfl, HT, htl, rfl⟩ := hrel
    by_cases hlt : k < m.length
    · have hlt1 : k < l.length := by rw [HE.out]; exact hlt
      obtain ⟨b, off, rfl, hb⟩ := HS.out.some hlt1
      obtain ⟨b2, off2, rfl, hb2⟩ := HS2.out.some hlt
      have hck := hb k hlt1
      have hck2 := hb2 k hlt
      have hx : l[k] < 256 := HS.out.byte _ (List.getElem_mem hlt1)
      have hy : m[k] < 256 := HS2.out.byte _ (List.getElem_mem hlt)
      have HD := Lib.hid (dotTo_succ l m k hlt1 hlt)
      generalize l[k] = x at *
      generalize m[k] = y at *
      have hp := mulN_lt y hx
      have hp2 := xor_lt htl hp
      clear hb hb2
      go_wp2_with (first | (go_at_call 13; refine (mul_any _ _ hx hy _).mono ?_; rintro e w' ⟨rfl, rfl⟩) | (go_at_call 12; refine (add_any _ _ htl hp _).mono ?_; rintro e w' ⟨rfl, rfl⟩))
      go_round
      case rel => exact ⟨k + 1, t ^^^ mulN x y, by omega, by go_num, by rw [HD.out, ← HT.out]; exact rfl, hp2, rfl⟩
      case measure => simp [intOf]; omega
    · obtain rfl : k = m.length := by omega
      have HF : Hid (dotN l m = t) := by unfold dotN; rw [HE.out]; exact HT.out.symm
      go_wp2_with fail
      go_ret2
      exact ⟨by rw [HF.out]; rfl, rfl⟩

theorem dot_other (a a2 : Option Addr) (n m cap cap2 : Nat) (w : World) (he : n ≠ m) :
    Calls Try.prog 9 #[.slice a n cap, .slice a2 m cap2] w fun e w' => e = .returned (.tuple #[.int .u8 0, .int .i64 1]) ∧ w = w' := by
  have hne : ((n : Int) != (m : Int)) = true := by simp; omega
  have HE := Lib.hid he
  clear he
  go_enter Try.func9, Try.ntmps9
  go_wp2
  go_ret2
  exact ⟨rfl, rfl⟩

set_option maxHeartbeats 400000 in
theorem zero_any (a : Option Addr) (cap : Nat) (l : List Nat) (w : World) (hs : Sl w a cap l) :
    Calls Try.prog 10 #[.slice a l.length cap] w fun e w' => e = .returned (.bool (zeroB l)) ∧ w = w' := by
  have HS := Lib.hid hs
  have hlm := hs.lt
  clear hs
  go_enter Try.func10, Try.ntmps10
  go_wp2_with fail
  go_loop [7] (fun i => ∃ k : Nat, k ≤ l.length ∧ i = .int .i64 k ∧ Hid (zeroTo l k = true)) (fun i => l.length - (intOf i).toNat)
  case atStart => exact ⟨0, by omega, rfl, rfl⟩
  case round =>
    obtain ⟨k, hk, rfl, HT⟩ := hrel
    by_cases hlt : k < l.length
    · obtain ⟨b, off, rfl, hb⟩ := HS.out.some hlt
      have hck := hb k hlt
      have hx : l[k] < 256 := HS.out.byte _ (List.getElem_mem hlt)
      by_cases h0 : l[k] = 0
      · have HZ := Lib.hid ((zeroTo_true hlt h0).trans HT.out)
        rw [h0] at hck
        have hn : (((0 : Nat) : Int) != 0) = false := rfl
        clear hb h0 hx
        go_wp2_with fail
        go_round
        case rel => exact ⟨k + 1, by omega, by go_num, HZ⟩
        case measure => simp [intOf]; omega
      · have HZ : Hid (zeroB l = false) := by
          have := zeroTo_later (zeroTo_false hlt h0) (l.length - (k + 1))
          rw [show k + 1 + (l.length - (k + 1)) = l.length by omega] at this
          exact this
        generalize l[k] = x at *
        have hn : ((x : Int) != 0) = true := by simp; omega
        clear hb h0
        go_wp2_with fail
        go_ret
        exact ⟨by rw [HZ.out]; rfl, rfl⟩
    · obtain rfl : k = l.length := by omega
      have HZ : Hid (zeroB l = true) := HT
      go_wp2_with fail
      go_ret
      exact ⟨by rw [HZ.out]; rfl, rfl⟩

end Go.Proofs.Ytjodogiknhgpcaa
