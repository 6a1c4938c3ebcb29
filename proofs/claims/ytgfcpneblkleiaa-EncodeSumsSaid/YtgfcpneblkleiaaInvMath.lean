/-
  Inverses of numbers below 256: plain mathematics.
-/
import Derived.Test.YtgfcpneblkleiaaFieldMath
namespace Go.Proofs.Ytgfcpneblkleiaa
set_option linter.unusedVariables false

/-! Powers. -/

/-- What a power is. -/
def powI (a : Nat) (n : Int) : Nat := if n = 0 then 1 else if a = 0 then 0 else powN a (n % 255).toNat

/-- What an inverse is. -/
def invN (a : Nat) : Nat := powI a (-1)
theorem invN_mul {a : Nat} (ha : a < 256) (h : a ≠ 0) : mulN a (invN a) = 1 := by
  have : invN a = powN a 254 := by unfold invN powI; rw [if_neg (by decide), if_neg h]; rfl
  rw [this]; exact mul_inv ha h
theorem invN_lt {a : Nat} (ha : a < 256) : invN a < 256 := by
  unfold invN powI
  rw [if_neg (by decide)]
  split
  · omega
  · exact powN_lt ha _
/-- There is but one. -/
theorem inv_one {a x y : Nat} (ha : a < 256) (hx : x < 256) (hy : y < 256) (h1 : mulN a x = 1) (h2 : mulN a y = 1) : x = y := by
  have e1 : mulN x (mulN a y) = mulN (mulN x a) y := mul_assoc hx ha hy
  rw [h2, mul_comm hx ha, h1, mul_one hx, one_mul hy] at e1
  exact e1

end Go.Proofs.Ytgfcpneblkleiaa
