/-
  No cell of these rows narrows 'for every input' (looked for: loops, veiled, ifaces, maps, wideKeys, modest, calm, conditions, laid).
  DERIVED. THE GIVEN ROWS OF THIS SEAT. 3 by the template 'for every input the law returns true; each argument reads behind the call as it read before'; 0 by the template 'total and deterministic' (their statements: YtiglmoggpjgmbaaTotals.lean).
  GIVEN WITH THE SEED: the statements are not yours to turn. If you find one false, say at which input.
  Laid BY PROGRAM, IN A SANDBOX (cutbox-rows.mjs): the forced cells as the released guide's own fill.sh prints them over the translation 7766b5c103b05af1… (all of the seat's roots in one cut). By AI agents, Wed Nov 11 2026. No macro, syntax, notation, axiom, sorry.
-/
import Derived.Test.YtiglmoggpjgmbaaChecked
import GoSem.Claim
import GoSem.ClaimJoined
import GoSem.ClaimMapViews
import Derived.JoinedTies
import Derived.KernelRfl
namespace Go.Proofs.Ytiglmoggpjgmbaa
/- THE CELL 'sum', in the pinned program and in every row, IS THE sha256 OF THE DUMP (.gsa) THAT YtiglmoggpjgmbaaProg.lean LOADS. Nothing in Lean hashes anything: it is a label: what it is worth is what the hold of that sum in a sandbox is worth. -/
noncomputable def Try.pinned : Pinned := { name := "ytiglmoggpjgmbaa", sum := "7766b5c103b05af116a1d8fcefc0b3d6bf3a5b4c7f8623b4bddea9c8080780f9", checked := Try.checked }
namespace Rows
def none {H : Type} : Left H := { results := [], args := [] }

/-- 'geyserlaw05.DenseRanks': WHATEVER THE INPUT: true; the input reads as it did. -/
def denseRanksSpec : ChangeSpec := { name := "denseRanks", fn := fun _ => fun
  | [d] => { results := [.lit (.bool true)], args := [d] }
  | _ => none }
def denseRanksRow : OpenClaim := { program := "ytiglmoggpjgmbaa", sum := "7766b5c103b05af116a1d8fcefc0b3d6bf3a5b4c7f8623b4bddea9c8080780f9", func := "geyser/geyserlaw05.DenseRanks", spec := "denseRanks", inPlace := ["slices.overlaps[geyser/dense.line]"], unfollowed := true, recurses := true, apart := false }
def DenseRanksSaid : Prop := denseRanksRow.holds Try.pinned (OpenSpec.ofChange denseRanksSpec)

/-- ITS FALSE NEIGHBOUR: 'it returns false'. Refute it at one input. -/
def denseRanksWrong : ChangeSpec := { name := "denseRanks", fn := fun _ => fun
  | [d] => { results := [.lit (.bool false)], args := [d] }
  | _ => none }
def DenseRanksWrongFalsely : Prop := denseRanksRow.holds Try.pinned (OpenSpec.ofChange denseRanksWrong)

/-- 'geyserlaw05.DenseSolves': WHATEVER THE INPUT: true; the input reads as it did. -/
def denseSolvesSpec : ChangeSpec := { name := "denseSolves", fn := fun _ => fun
  | [d1, d2, d3, d4] => { results := [.lit (.bool true)], args := [d1, d2, d3, d4] }
  | _ => none }
def denseSolvesRow : OpenClaim := { program := "ytiglmoggpjgmbaa", sum := "7766b5c103b05af116a1d8fcefc0b3d6bf3a5b4c7f8623b4bddea9c8080780f9", func := "geyser/geyserlaw05.DenseSolves", spec := "denseSolves", inPlace := ["slices.overlaps[geyser/dense.line]"], unfollowed := true, recurses := true, apart := false }
def DenseSolvesSaid : Prop := denseSolvesRow.holds Try.pinned (OpenSpec.ofChange denseSolvesSpec)

/-- ITS FALSE NEIGHBOUR: 'it returns false'. Refute it at one input. -/
def denseSolvesWrong : ChangeSpec := { name := "denseSolves", fn := fun _ => fun
  | [d1, d2, d3, d4] => { results := [.lit (.bool false)], args := [d1, d2, d3, d4] }
  | _ => none }
def DenseSolvesWrongFalsely : Prop := denseSolvesRow.holds Try.pinned (OpenSpec.ofChange denseSolvesWrong)

/-- 'geyserlaw05.DenseAny': WHATEVER THE INPUT: true; the input reads as it did. -/
def denseAnySpec : ChangeSpec := { name := "denseAny", fn := fun _ => fun
  | [d1, d2, d3] => { results := [.lit (.bool true)], args := [d1, d2, d3] }
  | _ => none }
def denseAnyRow : OpenClaim := { program := "ytiglmoggpjgmbaa", sum := "7766b5c103b05af116a1d8fcefc0b3d6bf3a5b4c7f8623b4bddea9c8080780f9", func := "geyser/geyserlaw05.DenseAny", spec := "denseAny", inPlace := ["slices.overlaps[geyser/dense.line]"], unfollowed := true, recurses := true, apart := false }
def DenseAnySaid : Prop := denseAnyRow.holds Try.pinned (OpenSpec.ofChange denseAnySpec)

/-- ITS FALSE NEIGHBOUR: 'it returns false'. Refute it at one input. -/
def denseAnyWrong : ChangeSpec := { name := "denseAny", fn := fun _ => fun
  | [d1, d2, d3] => { results := [.lit (.bool false)], args := [d1, d2, d3] }
  | _ => none }
def DenseAnyWrongFalsely : Prop := denseAnyRow.holds Try.pinned (OpenSpec.ofChange denseAnyWrong)

/- THE SECOND FORM. 'bulk': how many values and letters a reading holds, each counted each time it is reached (what is shared counts as often as it is met; a slice's spare places count too). A statement '..UptoSaid' is the law's where the arguments, and the package variables that the reading takes, are together of bulk at most 1048576: NARROWER than '..Said'. Prove '..Said' where nothing that the law and all that it calls make is longer than what came in: it says more and counts as full. Else prove '..UptoSaid'. A law counts once. -/
mutual
def uptoBulk {H : Type} : DataW H → Nat
  | .lit (.string bytes) => bytes.length + 1
  | .lit _ => 1
  | .nil => 1
  | .ptr d => uptoBulk d + 1
  | .slice elems spare => uptoBulkAll elems + uptoBulkAll spare + 1
  | .agg parts => uptoBulkAll parts + 1
  | .iface _ d => uptoBulk d + 1
  | .map entries => uptoBulkEntries entries + 1
  | .held _ => 1
def uptoBulkAll {H : Type} : List (DataW H) → Nat
  | [] => 0
  | d :: r => uptoBulk d + uptoBulkAll r
def uptoBulkEntries {H : Type} : List (Lit × DataW H) → Nat
  | [] => 0
  | x :: r => uptoBulkEntry x + uptoBulkEntries r
def uptoBulkEntry {H : Type} : Lit × DataW H → Nat
  | (.string bytes, d) => bytes.length + uptoBulk d + 1
  | (_, d) => uptoBulk d + 1
 end
def uptoSmall : (H : Type) → List (DataW H) → Bool := fun _ ds => decide (uptoBulkAll ds ≤ 1048576)
def OpenSpec.upto (s : _root_.Go.ChangeSpec) : _root_.Go.OpenSpec := { _root_.Go.OpenSpec.ofChange s with cond := some uptoSmall }

/-- 'geyserlaw05.DenseRanks', WHERE WHAT IT READS IS OF BULK AT MOST 1048576: true; the input reads as it did. -/
def denseRanksUptoRow : OpenClaim := { program := "ytiglmoggpjgmbaa", sum := "7766b5c103b05af116a1d8fcefc0b3d6bf3a5b4c7f8623b4bddea9c8080780f9", func := "geyser/geyserlaw05.DenseRanks", spec := "denseRanks", inPlace := ["slices.overlaps[geyser/dense.line]"], unfollowed := true, recurses := true, apart := false, narrowed := true }
def DenseRanksUptoSaid : Prop := denseRanksUptoRow.holds Try.pinned (OpenSpec.upto denseRanksSpec)

/-- 'geyserlaw05.DenseSolves', WHERE WHAT IT READS IS OF BULK AT MOST 1048576: true; the input reads as it did. -/
def denseSolvesUptoRow : OpenClaim := { program := "ytiglmoggpjgmbaa", sum := "7766b5c103b05af116a1d8fcefc0b3d6bf3a5b4c7f8623b4bddea9c8080780f9", func := "geyser/geyserlaw05.DenseSolves", spec := "denseSolves", inPlace := ["slices.overlaps[geyser/dense.line]"], unfollowed := true, recurses := true, apart := false, narrowed := true }
def DenseSolvesUptoSaid : Prop := denseSolvesUptoRow.holds Try.pinned (OpenSpec.upto denseSolvesSpec)

/-- 'geyserlaw05.DenseAny', WHERE WHAT IT READS IS OF BULK AT MOST 1048576: true; the input reads as it did. -/
def denseAnyUptoRow : OpenClaim := { program := "ytiglmoggpjgmbaa", sum := "7766b5c103b05af116a1d8fcefc0b3d6bf3a5b4c7f8623b4bddea9c8080780f9", func := "geyser/geyserlaw05.DenseAny", spec := "denseAny", inPlace := ["slices.overlaps[geyser/dense.line]"], unfollowed := true, recurses := true, apart := false, narrowed := true }
def DenseAnyUptoSaid : Prop := denseAnyUptoRow.holds Try.pinned (OpenSpec.upto denseAnySpec)

end Rows
end Go.Proofs.Ytiglmoggpjgmbaa
