/-
  The shelf's contract on bytes.Join, laid at this dump.
-/
import Derived.Shelf.Bytes.SlJoin
import Derived.Test.YtdfgdpgffblbpaaRows
namespace Go.Proofs.Ytdfgdpgffblbpaa
open Go.Shelf Go.Proofs
def lay_joinB_ren : Go.Shelf.Ren := ⟨fun | 14 => 26 | 15 => 29 | n => n, fun | 26 => 52 | 22 => 28 | 3 => 3 | 4 => 4 | 0 => 0 | 9 => 9 | 20 => 20 | 5 => 5 | n => n, fun | n => n⟩
theorem lay_joinB : Go.Proofs.SlLaysJ.n14 Try.prog lay_joinB_ren := {
  mixed := by kernel_rfl
  f14 := Try.func26.trans (congrArg some (by kernel_rfl))
  f15 := Try.func29.trans (congrArg some (by kernel_rfl))
  t0 := Try.underlying0
  a0 := Try.isAgg0
  z0 := Try.sizeOf0
  v0 := Try.zeroValue0
  t3 := Try.underlying3
  a3 := Try.isAgg3
  z3 := Try.sizeOf3
  v3 := Try.zeroValue3
  t4 := Try.underlying4
  a4 := Try.isAgg4
  z4 := Try.sizeOf4
  v4 := Try.zeroValue4
  t9 := Try.underlying9
  a9 := Try.isAgg9
  z9 := Try.sizeOf9
  v9 := Try.zeroValue9
  t20 := Try.underlying20
  a20 := Try.isAgg20
  z20 := Try.sizeOf20
  v20 := Try.zeroValue20
  t22 := Try.underlying28
  a22 := Try.isAgg28
  z22 := Try.sizeOf28
  v22 := Try.zeroValue28
  t26 := Try.underlying52
  a26 := Try.isAgg52
  z26 := Try.sizeOf52
  v26 := Try.zeroValue52
  t5 := Try.underlying5
  z5 := Try.sizeOf5
  i5 := by kernel_rfl }
end Go.Proofs.Ytdfgdpgffblbpaa
