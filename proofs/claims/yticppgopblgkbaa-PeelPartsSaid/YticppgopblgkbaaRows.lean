/-
  No cell of these rows narrows 'for every input' (looked for: loops, veiled, ifaces, maps, wideKeys, modest, calm, conditions, laid).
  DERIVED. THE GIVEN ROWS OF THIS SEAT. 2 by the template 'for every input the law returns true; each argument reads behind the call as it read before'; 0 by the template 'total and deterministic' (their statements: YticppgopblgkbaaTotals.lean).
  GIVEN WITH THE SEED: the statements are not yours to turn. If you find one false, say at which input.
  Laid BY PROGRAM, IN A SANDBOX (cutbox-rows.mjs): the forced cells as the released guide's own fill.sh prints them over the translation 0a2a117fee83dcff… (all of the seat's roots in one cut). By AI agents, Wed Nov 11 2026. No macro, syntax, notation, axiom, sorry.
-/
import Derived.Test.YticppgopblgkbaaChecked
import GoSem.Claim
import GoSem.ClaimJoined
import GoSem.ClaimMapViews
import Derived.JoinedTies
import Derived.KernelRfl
namespace Go.Proofs.Yticppgopblgkbaa
/- THE CELL 'sum', in the pinned program and in every row, IS THE sha256 OF THE DUMP (.gsa) THAT YticppgopblgkbaaProg.lean LOADS. Nothing in Lean hashes anything: it is a label: what it is worth is what the hold of that sum in a sandbox is worth. -/
noncomputable def Try.pinned : Pinned := { name := "yticppgopblgkbaa", sum := "0a2a117fee83dcff4f4fb035f070a9e2941b641e071907d0882552b011c0da73", checked := Try.checked }
namespace Rows
def none {H : Type} : Left H := { results := [], args := [] }

/-- 'geyserlaw10.PeelRights': WHATEVER THE INPUT: true; the input reads as it did. -/
def peelRightsSpec : ChangeSpec := { name := "peelRights", fn := fun _ => fun
  | [d1, d2] => { results := [.lit (.bool true)], args := [d1, d2] }
  | _ => none }
def peelRightsRow : OpenClaim := { program := "yticppgopblgkbaa", sum := "0a2a117fee83dcff4f4fb035f070a9e2941b641e071907d0882552b011c0da73", func := "geyser/geyserlaw10.PeelRights", spec := "peelRights", apart := false }
def PeelRightsSaid : Prop := peelRightsRow.holds Try.pinned (OpenSpec.ofChange peelRightsSpec)

/-- ITS FALSE NEIGHBOUR: 'it returns false'. Refute it at one input. -/
def peelRightsWrong : ChangeSpec := { name := "peelRights", fn := fun _ => fun
  | [d1, d2] => { results := [.lit (.bool false)], args := [d1, d2] }
  | _ => none }
def PeelRightsWrongFalsely : Prop := peelRightsRow.holds Try.pinned (OpenSpec.ofChange peelRightsWrong)

/-- 'geyserlaw10.PeelParts': WHATEVER THE INPUT: true; the input reads as it did. -/
def peelPartsSpec : ChangeSpec := { name := "peelParts", fn := fun _ => fun
  | [d1, d2] => { results := [.lit (.bool true)], args := [d1, d2] }
  | _ => none }
def peelPartsRow : OpenClaim := { program := "yticppgopblgkbaa", sum := "0a2a117fee83dcff4f4fb035f070a9e2941b641e071907d0882552b011c0da73", func := "geyser/geyserlaw10.PeelParts", spec := "peelParts", unfollowed := true, recurses := true, apart := false }
def PeelPartsSaid : Prop := peelPartsRow.holds Try.pinned (OpenSpec.ofChange peelPartsSpec)

/-- ITS FALSE NEIGHBOUR: 'it returns false'. Refute it at one input. -/
def peelPartsWrong : ChangeSpec := { name := "peelParts", fn := fun _ => fun
  | [d1, d2] => { results := [.lit (.bool false)], args := [d1, d2] }
  | _ => none }
def PeelPartsWrongFalsely : Prop := peelPartsRow.holds Try.pinned (OpenSpec.ofChange peelPartsWrong)

/- THE SECOND FORM. 'bulk': how many values and letters a reading holds, each counted each time it is reached (what is shared counts as often as it is met; a slice's spare places count too). A statement '..UptoSaid' is the law's where the arguments, and the package variables that the reading takes, are together of bulk at most 1048576: NARROWER than '..Said'. Prove '..Said' where nothing that the law and all that it calls make is longer than what came in: it says more and counts as full. Else prove '..UptoSaid'. A law counts once. -/
mutual
def uptoBulk {H : Type} : DataW H → Nat
  | .lit (.string bytes) => bytes.length + 1
  | .lit _ => 1
  | .nil => 1
  | .ptr d => uptoBulk d + 1
  | .slice elems spare => uptoBulkAll elems + uptoBulkAll spare + 1
  | .agg parts => uptoBulkAll parts + 1
  | .iface _ d => uptoBulk d + 1
  | .map entries => uptoBulkEntries entries + 1
  | .held _ => 1
def uptoBulkAll {H : Type} : List (DataW H) → Nat
  | [] => 0
  | d :: r => uptoBulk d + uptoBulkAll r
def uptoBulkEntries {H : Type} : List (Lit × DataW H) → Nat
  | [] => 0
  | x :: r => uptoBulkEntry x + uptoBulkEntries r
def uptoBulkEntry {H : Type} : Lit × DataW H → Nat
  | (.string bytes, d) => bytes.length + uptoBulk d + 1
  | (_, d) => uptoBulk d + 1
 end
def uptoSmall : (H : Type) → List (DataW H) → Bool := fun _ ds => decide (uptoBulkAll ds ≤ 1048576)
def OpenSpec.upto (s : _root_.Go.ChangeSpec) : _root_.Go.OpenSpec := { _root_.Go.OpenSpec.ofChange s with cond := some uptoSmall }

/-- 'geyserlaw10.PeelRights', WHERE WHAT IT READS IS OF BULK AT MOST 1048576: true; the input reads as it did. -/
def peelRightsUptoRow : OpenClaim := { program := "yticppgopblgkbaa", sum := "0a2a117fee83dcff4f4fb035f070a9e2941b641e071907d0882552b011c0da73", func := "geyser/geyserlaw10.PeelRights", spec := "peelRights", apart := false, narrowed := true }
def PeelRightsUptoSaid : Prop := peelRightsUptoRow.holds Try.pinned (OpenSpec.upto peelRightsSpec)

/-- 'geyserlaw10.PeelParts', WHERE WHAT IT READS IS OF BULK AT MOST 1048576: true; the input reads as it did. -/
def peelPartsUptoRow : OpenClaim := { program := "yticppgopblgkbaa", sum := "0a2a117fee83dcff4f4fb035f070a9e2941b641e071907d0882552b011c0da73", func := "geyser/geyserlaw10.PeelParts", spec := "peelParts", unfollowed := true, recurses := true, apart := false, narrowed := true }
def PeelPartsUptoSaid : Prop := peelPartsUptoRow.holds Try.pinned (OpenSpec.upto peelPartsSpec)

end Rows
end Go.Proofs.Yticppgopblgkbaa
