/-
  What package vector's Zero answers of any bytes.
-/
import Derived.Test.YtiglmoggpjgmbaaVec
namespace Go.Proofs.Ytiglmoggpjgmbaa
open Go.ChangeShapes Go.WideShapes Go.ChangeAt Go.RowKit
set_option linter.unusedVariables false

/-- Are the first k all 0? -/
def zeroTo (l : List Nat) : Nat → Bool
  | 0 => true
  | k + 1 => zeroTo l k && (l.getD k 0 == 0)
def zeroB (l : List Nat) : Bool := zeroTo l l.length

theorem getD_lt {l : List Nat} (h : IsByte l) (k : Nat) : l.getD k 0 < 256 := by
  by_cases hk : k < l.length
  · simp only [List.getD, List.getElem?_eq_getElem hk, Option.getD_some]; exact h _ (List.getElem_mem hk)
  · simp [List.getD, List.getElem?_eq_none (show l.length ≤ k by omega)]
theorem zeroTo_false {l : List Nat} {k : Nat} (h1 : k < l.length) (h : l[k] ≠ 0) : zeroTo l (k + 1) = false := by
  simp [zeroTo, List.getD, h1, h]
theorem zeroTo_true {l : List Nat} {k : Nat} (h1 : k < l.length) (h : l[k] = 0) : zeroTo l (k + 1) = zeroTo l k := by
  simp [zeroTo, List.getD, h1, h]
theorem zeroTo_later {l : List Nat} {k : Nat} (h : zeroTo l k = false) : ∀ n, zeroTo l (k + n) = false
  | 0 => h
  | n + 1 => by show (zeroTo l (k + n) && _) = false; rw [zeroTo_later h n]; rfl

set_option maxHeartbeats 400000 in
theorem zero_any (a : Option Addr) (cap : Nat) (l : List Nat) (w : World) (hs : Sl w a cap l) :
    Calls Try.prog 27 #[.slice a l.length cap] w fun e w' => e = .returned (.bool (zeroB l)) ∧ w = w' := by
  have HS := Lib.hid hs
  have hlm := hs.lt
  clear hs
  go_enter Try.func27, Try.ntmps27
  go_wp2_with fail
  go_loop [7] (fun i => ∃ k : Nat, k ≤ l.length ∧ i = .int .i64 k ∧ Hid (zeroTo l k = true)) (fun i => l.length - (intOf i).toNat)
  case atStart => exact ⟨0, by omega, rfl, rfl⟩
  case round =>
    obtain ⟨k, hk, rfl, HT⟩ := hrel
    by_cases hlt : k < l.length
    · obtain ⟨b, off, rfl, hb⟩ := HS.out.some hlt
      have hck := hb k hlt
      have hx : l[k] < 256 := HS.out.byte _ (List.getElem_mem hlt)
      by_cases h0 : l[k] = 0
      · have HZ := Lib.hid ((zeroTo_true hlt h0).trans HT.out)
        rw [h0] at hck
        have hn : (((0 : Nat) : Int) != 0) = false := rfl
        clear hb h0 hx
        go_wp2_with fail
        go_round
        case rel => exact ⟨k + 1, by omega, by go_num, HZ⟩
        case measure => simp [intOf]; omega
      · have HZ : Hid (zeroB l = false) := by
          have := zeroTo_later (zeroTo_false hlt h0) (l.length - (k + 1))
          rw [show k + 1 + (l.length - (k + 1)) = l.length by omega] at this
          exact this
        generalize l[k] = x at *
        have hn : ((x : Int) != 0) = true := by simp; omega
        clear hb h0
        go_wp2_with fail
        go_ret
        exact ⟨by rw [HZ.out]; rfl, rfl⟩
    · obtain rfl : k = l.length := by omega
      have HZ : Hid (zeroB l = true) := HT
      go_wp2_with fail
      go_ret
      exact ⟨by rw [HZ.out]; rfl, rfl⟩

end Go.Proofs.Ytiglmoggpjgmbaa
