/-
  DERIVED. GIVEN WITH THE SEED: THE CARDS: each row of YthpinjmlnongpaaDoorRows.lean that lists a variable, with what it lists TIED to the program's text (the seventh form; the later family's looks); each row that meets fmt, with fmt's text TOLD by the authors' own Lean function (tested against real Go, not proved from fmt's source: count such statements apart). THE CARD IS WHAT COUNTS. Prove the row's statement (the work); the ties are given (YthpinjmlnongpaaDoorTie.lean); close each card by the builder's one call (the guide's Derived/Test/ToyasCard.lean, 'card_holds'). Laid BY PROGRAM, IN A SANDBOX (cutbox-door.mjs). By AI agents, Wed Nov 11 2026. No macro, syntax, notation, axiom, sorry.
-/
import Derived.Test.YthpinjmlnongpaaDoorRows
import GoSem.ClaimSeven
namespace Go.Proofs.YthpinjmlnongpaaDoor
namespace Rows

/-- THE TIED CARD OF 'geyserlaw14.PacketSets'. -/
def packetSetsCard : Claim7 := { stood := { row := packetSetsRow, standIns := [], harness := (true, "991d584b3cbf4a48932c4f1fb19ff2e59711c65a92a8769a4af3b20cd5d98b68"), looks := true }, kinds := [], alts := [], laidByText := true, laidKinds := [.data, .data, .data, .pinned], laidTests := true, laidLooks := .later }
def PacketSetsCardSaid : Prop := Claim7.holds Tryd.pinned (.plain (OpenSpec.ofChange packetSetsSpec)) packetSetsCard

/-- THE TIED CARD OF 'geyserlaw14.PacketJoins'. -/
def packetJoinsCard : Claim7 := { stood := { row := packetJoinsRow, standIns := [], harness := (true, "991d584b3cbf4a48932c4f1fb19ff2e59711c65a92a8769a4af3b20cd5d98b68"), looks := true }, kinds := [], alts := [], laidByText := true, laidKinds := [.data, .data, .data, .pinned], laidTests := true, laidLooks := .later }
def PacketJoinsCardSaid : Prop := Claim7.holds Tryd.pinned (.plain (OpenSpec.ofChange packetJoinsSpec)) packetJoinsCard

/-- THE TIED CARD OF 'geyserlaw15.PathRights'. -/
def pathRightsCard : Claim7 := { stood := { row := pathRightsRow, standIns := [], harness := (true, "991d584b3cbf4a48932c4f1fb19ff2e59711c65a92a8769a4af3b20cd5d98b68"), looks := true }, kinds := [], alts := [], laidByText := true, laidKinds := [.data, .data, .data, .data, .sentinel, .sentinel, .pinned], laidTests := true, laidLooks := .later }
def PathRightsCardSaid : Prop := Claim7.holds Tryd.pinned (.plain (OpenSpec.ofChange pathRightsSpec)) pathRightsCard

/-- THE TIED CARD OF 'geyserlaw15.PathNumbers'. -/
def pathNumbersCard : Claim7 := { stood := { row := pathNumbersRow, standIns := [], harness := (true, "991d584b3cbf4a48932c4f1fb19ff2e59711c65a92a8769a4af3b20cd5d98b68"), looks := true }, kinds := [], alts := [], laidByText := true, laidKinds := [.data, .data, .data, .data, .sentinel, .sentinel, .pinned], laidTests := true, laidLooks := .later }
def PathNumbersCardSaid : Prop := Claim7.holds Tryd.pinned (.plain (OpenSpec.ofChange pathNumbersSpec)) pathNumbersCard

/-- THE TIED CARD OF 'geyserlaw15.PathVolumes'. -/
def pathVolumesCard : Claim7 := { stood := { row := pathVolumesRow, standIns := [], harness := (true, "991d584b3cbf4a48932c4f1fb19ff2e59711c65a92a8769a4af3b20cd5d98b68"), looks := true }, kinds := [], alts := [], laidByText := true, laidKinds := [.data, .data, .data, .data, .sentinel, .sentinel, .pinned], laidTests := true, laidLooks := .later }
def PathVolumesCardSaid : Prop := Claim7.holds Tryd.pinned (.plain (OpenSpec.ofChange pathVolumesSpec)) pathVolumesCard

/-- THE SECOND FORM's CARD OF 'geyserlaw14.PacketSets'. -/
def packetSetsUptoCard : Claim7 := { stood := { row := packetSetsUptoRow, standIns := [], harness := (true, "991d584b3cbf4a48932c4f1fb19ff2e59711c65a92a8769a4af3b20cd5d98b68"), looks := true }, kinds := [], alts := [], laidByText := true, laidKinds := [.data, .data, .data, .pinned], laidTests := true, laidLooks := .later }
def PacketSetsUptoCardSaid : Prop := Claim7.holds Tryd.pinned (.plain (OpenSpec.upto packetSetsSpec)) packetSetsUptoCard

/-- THE SECOND FORM's CARD OF 'geyserlaw14.PacketJoins'. -/
def packetJoinsUptoCard : Claim7 := { stood := { row := packetJoinsUptoRow, standIns := [], harness := (true, "991d584b3cbf4a48932c4f1fb19ff2e59711c65a92a8769a4af3b20cd5d98b68"), looks := true }, kinds := [], alts := [], laidByText := true, laidKinds := [.data, .data, .data, .pinned], laidTests := true, laidLooks := .later }
def PacketJoinsUptoCardSaid : Prop := Claim7.holds Tryd.pinned (.plain (OpenSpec.upto packetJoinsSpec)) packetJoinsUptoCard

/-- THE SECOND FORM's CARD OF 'geyserlaw15.PathRights'. -/
def pathRightsUptoCard : Claim7 := { stood := { row := pathRightsUptoRow, standIns := [], harness := (true, "991d584b3cbf4a48932c4f1fb19ff2e59711c65a92a8769a4af3b20cd5d98b68"), looks := true }, kinds := [], alts := [], laidByText := true, laidKinds := [.data, .data, .data, .data, .sentinel, .sentinel, .pinned], laidTests := true, laidLooks := .later }
def PathRightsUptoCardSaid : Prop := Claim7.holds Tryd.pinned (.plain (OpenSpec.upto pathRightsSpec)) pathRightsUptoCard

/-- THE SECOND FORM's CARD OF 'geyserlaw15.PathNumbers'. -/
def pathNumbersUptoCard : Claim7 := { stood := { row := pathNumbersUptoRow, standIns := [], harness := (true, "991d584b3cbf4a48932c4f1fb19ff2e59711c65a92a8769a4af3b20cd5d98b68"), looks := true }, kinds := [], alts := [], laidByText := true, laidKinds := [.data, .data, .data, .data, .sentinel, .sentinel, .pinned], laidTests := true, laidLooks := .later }
def PathNumbersUptoCardSaid : Prop := Claim7.holds Tryd.pinned (.plain (OpenSpec.upto pathNumbersSpec)) pathNumbersUptoCard

/-- THE SECOND FORM's CARD OF 'geyserlaw15.PathVolumes'. -/
def pathVolumesUptoCard : Claim7 := { stood := { row := pathVolumesUptoRow, standIns := [], harness := (true, "991d584b3cbf4a48932c4f1fb19ff2e59711c65a92a8769a4af3b20cd5d98b68"), looks := true }, kinds := [], alts := [], laidByText := true, laidKinds := [.data, .data, .data, .data, .sentinel, .sentinel, .pinned], laidTests := true, laidLooks := .later }
def PathVolumesUptoCardSaid : Prop := Claim7.holds Tryd.pinned (.plain (OpenSpec.upto pathVolumesSpec)) pathVolumesUptoCard
end Rows
end Go.Proofs.YthpinjmlnongpaaDoor
