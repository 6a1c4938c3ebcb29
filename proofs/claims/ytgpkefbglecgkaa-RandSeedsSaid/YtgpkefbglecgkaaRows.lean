/-
  No cell of these rows narrows 'for every input' (looked for: loops, veiled, ifaces, maps, wideKeys, modest, calm, conditions, laid).
  DERIVED. THE GIVEN ROWS OF THIS SEAT. 2 by the template 'for every input the law returns true; each argument reads behind the call as it read before'; 0 by the template 'total and deterministic' (their statements: YtgpkefbglecgkaaTotals.lean).
  GIVEN WITH THE SEED: the statements are not yours to turn. If you find one false, say at which input.
  Laid BY PROGRAM, IN A SANDBOX (cutbox-rows.mjs): the forced cells as the released guide's own fill.sh prints them over the translation d0f74d5adfb481d1… (all of the seat's roots in one cut). By AI agents, Wed Nov 11 2026. No macro, syntax, notation, axiom, sorry.
-/
import Derived.Test.YtgpkefbglecgkaaChecked
import GoSem.Claim
import GoSem.ClaimJoined
import GoSem.ClaimMapViews
import Derived.JoinedTies
import Derived.KernelRfl
namespace Go.Proofs.Ytgpkefbglecgkaa
/- THE CELL 'sum', in the pinned program and in every row, IS THE sha256 OF THE DUMP (.gsa) THAT YtgpkefbglecgkaaProg.lean LOADS. Nothing in Lean hashes anything: it is a label: what it is worth is what the hold of that sum in a sandbox is worth. -/
noncomputable def Try.pinned : Pinned := { name := "ytgpkefbglecgkaa", sum := "d0f74d5adfb481d193444b4508ad273eb328d40fb1067cefde6853a897813c4b", checked := Try.checked }
namespace Rows
def none {H : Type} : Left H := { results := [], args := [] }

/-- 'geyserlaw06.RandGoes': WHATEVER THE INPUT: true; the input reads as it did. -/
def randGoesSpec : ChangeSpec := { name := "randGoes", fn := fun _ => fun
  | [d1, d2] => { results := [.lit (.bool true)], args := [d1, d2] }
  | _ => none }
def randGoesRow : OpenClaim := { program := "ytgpkefbglecgkaa", sum := "d0f74d5adfb481d193444b4508ad273eb328d40fb1067cefde6853a897813c4b", func := "geyser/geyserlaw06.RandGoes", spec := "randGoes", apart := false }
def RandGoesSaid : Prop := randGoesRow.holds Try.pinned (OpenSpec.ofChange randGoesSpec)

/-- ITS FALSE NEIGHBOUR: 'it returns false'. Refute it at one input. -/
def randGoesWrong : ChangeSpec := { name := "randGoes", fn := fun _ => fun
  | [d1, d2] => { results := [.lit (.bool false)], args := [d1, d2] }
  | _ => none }
def RandGoesWrongFalsely : Prop := randGoesRow.holds Try.pinned (OpenSpec.ofChange randGoesWrong)

/-- 'geyserlaw06.RandSeeds': WHATEVER THE INPUT: true; the input reads as it did. -/
def randSeedsSpec : ChangeSpec := { name := "randSeeds", fn := fun _ => fun
  | [d1, d2, d3] => { results := [.lit (.bool true)], args := [d1, d2, d3] }
  | _ => none }
def randSeedsRow : OpenClaim := { program := "ytgpkefbglecgkaa", sum := "d0f74d5adfb481d193444b4508ad273eb328d40fb1067cefde6853a897813c4b", func := "geyser/geyserlaw06.RandSeeds", spec := "randSeeds", apart := false }
def RandSeedsSaid : Prop := randSeedsRow.holds Try.pinned (OpenSpec.ofChange randSeedsSpec)

/-- ITS FALSE NEIGHBOUR: 'it returns false'. Refute it at one input. -/
def randSeedsWrong : ChangeSpec := { name := "randSeeds", fn := fun _ => fun
  | [d1, d2, d3] => { results := [.lit (.bool false)], args := [d1, d2, d3] }
  | _ => none }
def RandSeedsWrongFalsely : Prop := randSeedsRow.holds Try.pinned (OpenSpec.ofChange randSeedsWrong)

/- THE SECOND FORM. 'bulk': how many values and letters a reading holds, each counted each time it is reached (what is shared counts as often as it is met; a slice's spare places count too). A statement '..UptoSaid' is the law's where the arguments, and the package variables that the reading takes, are together of bulk at most 1048576: NARROWER than '..Said'. Prove '..Said' where nothing that the law and all that it calls make is longer than what came in: it says more and counts as full. Else prove '..UptoSaid'. A law counts once. -/
mutual
def uptoBulk {H : Type} : DataW H → Nat
  | .lit (.string bytes) => bytes.length + 1
  | .lit _ => 1
  | .nil => 1
  | .ptr d => uptoBulk d + 1
  | .slice elems spare => uptoBulkAll elems + uptoBulkAll spare + 1
  | .agg parts => uptoBulkAll parts + 1
  | .iface _ d => uptoBulk d + 1
  | .map entries => uptoBulkEntries entries + 1
  | .held _ => 1
def uptoBulkAll {H : Type} : List (DataW H) → Nat
  | [] => 0
  | d :: r => uptoBulk d + uptoBulkAll r
def uptoBulkEntries {H : Type} : List (Lit × DataW H) → Nat
  | [] => 0
  | x :: r => uptoBulkEntry x + uptoBulkEntries r
def uptoBulkEntry {H : Type} : Lit × DataW H → Nat
  | (.string bytes, d) => bytes.length + uptoBulk d + 1
  | (_, d) => uptoBulk d + 1
 end
def uptoSmall : (H : Type) → List (DataW H) → Bool := fun _ ds => decide (uptoBulkAll ds ≤ 1048576)
def OpenSpec.upto (s : _root_.Go.ChangeSpec) : _root_.Go.OpenSpec := { _root_.Go.OpenSpec.ofChange s with cond := some uptoSmall }

/-- 'geyserlaw06.RandGoes', WHERE WHAT IT READS IS OF BULK AT MOST 1048576: true; the input reads as it did. -/
def randGoesUptoRow : OpenClaim := { program := "ytgpkefbglecgkaa", sum := "d0f74d5adfb481d193444b4508ad273eb328d40fb1067cefde6853a897813c4b", func := "geyser/geyserlaw06.RandGoes", spec := "randGoes", apart := false, narrowed := true }
def RandGoesUptoSaid : Prop := randGoesUptoRow.holds Try.pinned (OpenSpec.upto randGoesSpec)

/-- 'geyserlaw06.RandSeeds', WHERE WHAT IT READS IS OF BULK AT MOST 1048576: true; the input reads as it did. -/
def randSeedsUptoRow : OpenClaim := { program := "ytgpkefbglecgkaa", sum := "d0f74d5adfb481d193444b4508ad273eb328d40fb1067cefde6853a897813c4b", func := "geyser/geyserlaw06.RandSeeds", spec := "randSeeds", apart := false, narrowed := true }
def RandSeedsUptoSaid : Prop := randSeedsUptoRow.holds Try.pinned (OpenSpec.upto randSeedsSpec)

end Rows
end Go.Proofs.Ytgpkefbglecgkaa
