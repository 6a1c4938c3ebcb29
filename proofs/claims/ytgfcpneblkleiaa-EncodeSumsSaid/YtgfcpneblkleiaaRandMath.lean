/-
  Numbers that look like chance: the next state, degrees and seeds, as plain numbers.
-/
import Derived.Lib.Hide
namespace Go.Proofs.Ytgfcpneblkleiaa
set_option linter.unusedVariables false

def up13 (x : Nat) : Nat := x ^^^ (x * 8192 % 4294967296)
def dn17 (x : Nat) : Nat := x ^^^ (x / 131072)
def up5 (x : Nat) : Nat := x ^^^ (x * 32 % 4294967296)
/-- The next state. -/
def nextN (x : Nat) : Nat := up5 (dn17 (up13 x))
theorem up13_lt {x : Nat} (h : x < 4294967296) : up13 x < 4294967296 := Nat.xor_lt_two_pow (n := 32) h (Nat.mod_lt _ (by omega))
theorem dn17_lt {x : Nat} (h : x < 4294967296) : dn17 x < 4294967296 := Nat.xor_lt_two_pow (n := 32) h (Nat.lt_of_le_of_lt (Nat.div_le_self _ _) h)
theorem up5_lt {x : Nat} (h : x < 4294967296) : up5 x < 4294967296 := Nat.xor_lt_two_pow (n := 32) h (Nat.mod_lt _ (by omega))
theorem nextN_lt {x : Nat} (h : x < 4294967296) : nextN x < 4294967296 := up5_lt (dn17_lt (up13_lt h))
/-- The first state. -/
def beginN (s : Nat) : Nat := if s ^^^ 2654435769 = 0 then 1 else s ^^^ 2654435769
theorem beginN_lt {s : Nat} (h : s < 4294967296) : beginN s < 4294967296 := by
  unfold beginN
  split
  · omega
  · exact Nat.xor_lt_two_pow (n := 32) h (by omega)
/-- The degree that a draw has. -/
def degN (d : Nat) : Nat := if d < 16 then 1 else if d < 528 then 2 else if d < 696 then 3 else if d < 780 then 4 else if d < 860 then 6 else if d < 930 then 10 else if d < 980 then 18 else 34
theorem degN_le (d : Nat) : 1 ≤ degN d ∧ degN d ≤ 34 := by
  unfold degN
  repeat' split
  all_goals omega
/-- At most n, at least 1. -/
def capI (d : Nat) (n : Int) : Int := max 1 (min n (d : Int))
def seedN (k i : Nat) : Nat := (i * 2654435761 + k * 40503) % 4294967296
end Go.Proofs.Ytgfcpneblkleiaa
